"""What is known behind deeds that change who sits or what the slips are (stage 10)."""

from goersay.errors import NoDeed, NoName, TooMany
from goersay.known import NOTHING, of_rests
from goersay.rests import check_between, check_number, is_name, moved
from goersay.rings import FEWEST, MOST, check_name

# Each word with how many parts all see of its deeds.
CHANGES = (("more", 2), ("anew", 1), ("swap", 2), ("seat", 2), ("come", 2), ("go", 1))


def after(known, word, parts):
    """A new Known, which saw nothing, of what is known behind such a deed."""
    if not isinstance(parts, tuple) or (word, len(parts)) not in CHANGES:
        raise NoDeed(0)
    names = known.names()
    check_change(names, word, parts)
    rests = slips_behind(known.rests(), word, parts, NOTHING)
    if word == "more":
        name, k = parts
        rests[name] = moved(rests[name], k)
    return of_rests(names_behind(names, word, parts), rests)


def check_hand(names, word, thing):
    """NoName of none of the hands, of come of what is no name or is one of them."""
    if word != "come":
        check_name(names, thing)
    elif not is_name(thing) or thing in names:
        raise NoName(thing)


def check_change(names, word, parts):
    """What such a deed is refused by, part by part, where these hands sit."""
    check_hand(names, word, parts[0])
    if word == "more":
        check_number(parts[1])
    elif word in ("swap", "seat"):
        check_name(names, parts[1])
        if parts[0] == parts[1]:
            raise NoDeed(0)
    elif word == "come":
        check_between(parts[1], 0, len(names))
        if len(names) == MOST:
            raise TooMany(MOST)
    elif word == "go" and len(names) == FEWEST:
        raise TooMany(FEWEST)


def names_behind(names, word, parts):
    """The list of the hands, as they sit behind such a deed."""
    row = list(names)
    if word == "seat":
        one, other = row.index(parts[0]), row.index(parts[1])
        row[one], row[other] = row[other], row[one]
    elif word == "come":
        row.insert(parts[1], parts[0])
    elif word == "go":
        row.remove(parts[0])
    return row


def slips_behind(told, word, parts, new):
    """The dict of what is told of each hand's slip, gone with the slips by such a deed; new is told of a new one."""
    behind = dict(told)
    if word == "swap":
        one, other = parts
        behind[one], behind[other] = behind[other], behind[one]
    elif word in ("anew", "come"):
        behind[parts[0]] = new
    elif word == "go":
        del behind[parts[0]]
    return behind
