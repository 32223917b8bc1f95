"""A house: a ring, and watchers who each know what can be known by what they saw of its rounds (stage 10)."""

from goersay.changes import after, check_change, check_hand, names_behind, slips_behind
from goersay.errors import NoDeed, NoWatcher, TooMany
from goersay.known import NOTHING, Known, of_rests
from goersay.rests import both, check_between, check_number, is_name
from goersay.rings import Ring, check_name
from goersay.seen import sighting_of

MOST_WATCHERS = 12

# Each word with how many parts its deeds have.
DEEDS = (
    ("watch", 1), ("round", 2), ("more", 2), ("anew", 2), ("swap", 2), ("seat", 2), ("come", 3), ("go", 1),
)


class House:
    """What its deeds lead to; each can be taken back."""

    def __init__(self, names, slips):
        # The ring and what each watcher knows, at first and behind each deed. What stands here never changes.
        self._stood = [(Ring(names, slips), {})]
        self._deeds = []

    def do(self, deed):
        """Of round the pair (order, who begins next), else None."""
        _check_form(deed, 0)
        ring, knowns = self._stood[-1]
        _check_deed(ring, knowns, deed)
        self._stood.append(_behind(ring, knowns, deed))
        self._deeds.append(deed)
        if deed[0] == "round":
            return (ring.order(deed[1]), ring.next_of(deed[1]))
        return None

    def begun(self):
        """The ring of which it was made."""
        return self._stood[0][0]

    def ring(self):
        """The ring as it is."""
        return self._stood[-1][0]

    def watchers(self):
        """The rising list of the watchers' names."""
        return sorted(self._stood[-1][1])

    def known(self, watcher):
        """A twin of what this watcher knows."""
        knowns = self._stood[-1][1]
        _check_watcher(knowns, watcher)
        return knowns[watcher].twin()

    def together(self, watchers):
        """A Known, which saw nothing, of all that these watchers know together."""
        ring, knowns = self._stood[-1]
        _check_watchers(knowns, watchers)
        rests = {name: NOTHING for name in ring.names()}
        for watcher in watchers:
            told = knowns[watcher].rests()
            # As the true slips fit all, there are such that have both.
            rests = {name: both(rest, told[name]) for name, rest in rests.items()}
        return of_rests(ring.names(), rests)

    def deeds(self):
        """The list of the deeds that stand."""
        return list(self._deeds)

    def all_done(self, deeds):
        """The list of what each told; all are done or none."""
        if not isinstance(deeds, (list, tuple)):
            raise NoDeed(0)
        for at, deed in enumerate(deeds):
            _check_form(deed, at)
        trial = self.twin()
        told = []
        for deed in deeds:
            told.append(trial.do(deed))
        self._stood = trial._stood
        self._deeds = trial._deeds
        return told

    def undo(self):
        """Whether there was a deed that stands, the last of which is taken back."""
        if len(self._deeds) == 0:
            return False
        self._stood.pop()
        self._deeds.pop()
        return True

    def twin(self):
        """Another one with the same deeds, which can be taken back there, too."""
        other = House(self.begun().names(), self.begun().slips())
        other._stood = list(self._stood)
        other._deeds = list(self._deeds)
        return other

    def __eq__(self, other):
        return isinstance(other, House) and self._stood[-1] == other._stood[-1]


def all_see(deed):
    """The word and the parts that everybody sees of a deed that changes the ring: all but new slips."""
    word, parts = deed[0], deed[1:]
    if word in ("anew", "come"):
        return (word, parts[:1] + parts[2:])
    return (word, parts)


def _check_form(thing, at):
    """NoDeed(at) of what is no tuple of a word and as many parts."""
    if not isinstance(thing, tuple) or len(thing) == 0 or (thing[0], len(thing) - 1) not in DEEDS:
        raise NoDeed(at)


def _check_deed(ring, knowns, deed):
    """What such a deed is refused by, part by part."""
    names = ring.names()
    if deed[0] == "watch":
        _check_new_watcher(knowns, deed[1])
    elif deed[0] == "round":
        check_name(names, deed[1])
        _check_eyes(ring, knowns, deed[2])
    else:
        word, parts = all_see(deed)
        check_hand(names, word, deed[1])
        if word in ("anew", "come"):
            check_number(deed[2])
        check_change(names, word, parts)


def _check_new_watcher(knowns, thing):
    if not is_name(thing) or thing in knowns:
        raise NoWatcher(thing)
    if len(knowns) == MOST_WATCHERS:
        raise TooMany(MOST_WATCHERS)


def _check_eyes(ring, knowns, thing):
    if not _is_eyes(thing):
        raise NoDeed(0)
    for watcher, many, then in thing:
        _check_watcher(knowns, watcher)
        check_between(many, 1, len(ring))
        if not isinstance(then, bool) or (then and many < len(ring)):
            raise NoDeed(0)


def _is_eyes(thing):
    """Whether it is a tuple of tuples of three whose first ones are unlike."""
    if not isinstance(thing, tuple) or not all([isinstance(eye, tuple) and len(eye) == 3 for eye in thing]):
        return False
    firsts = [eye[0] for eye in thing]
    return all([first not in firsts[:at] for at, first in enumerate(firsts)])


def _check_watcher(knowns, thing):
    # The dict itself can't be asked for just anything.
    if thing not in list(knowns):
        raise NoWatcher(thing)


def _check_watchers(knowns, thing):
    if not isinstance(thing, (list, tuple)):
        raise NoWatcher(None)
    for watcher in thing:
        _check_watcher(knowns, watcher)
    if len(thing) == 0:
        raise NoWatcher(None)


def _behind(ring, knowns, deed):
    """The ring, and what each watcher knows, behind a deed that isn't refused."""
    if deed[0] == "watch":
        return (ring, {**knowns, deed[1]: Known(ring.names())})
    if deed[0] == "round":
        return (ring, _seen_by(ring, knowns, deed))
    word, parts = all_see(deed)
    return (_ring_behind(ring, deed), {watcher: after(known, word, parts) for watcher, known in knowns.items()})


def _seen_by(ring, knowns, deed):
    """What each watcher knows behind a round."""
    told = dict(knowns)
    for watcher, many, then in deed[2]:
        known = knowns[watcher].twin()
        known.see(sighting_of(ring, deed[1], many=many, then=then))
        told[watcher] = known
    return told


def _ring_behind(ring, deed):
    word, parts = all_see(deed)
    slips = slips_behind(ring.slips(), word, parts, 0)
    if word in ("anew", "come"):
        slips[deed[1]] = deed[2]
    elif word == "more":
        slips[deed[1]] += deed[2]
    return Ring(names_behind(ring.names(), word, parts), slips)
