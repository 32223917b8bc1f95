"""The fewest slips to be changed for a wished last one, and papers that show that no fewer do (stage 9)."""

from itertools import combinations

from goersay.errors import NoOrder, TooMany
from goersay.rests import is_number
from goersay.rings import check_name, who_sit

WIDEST = 8


def fewest_last(ring, begin, last):
    """(number, order, paper): the fewest slips, the first order that needs so few, and what shows it."""
    _check_asked(ring, begin, last)
    paper = _paper_of(ring, begin, last)
    return (paper[_start(begin)], _first_by(ring, begin, paper), paper)


def is_paper(ring, begin, last, number, thing):
    """Whether it is a paper by which no fewer slips than this number do."""
    _check_asked(ring, begin, last)
    pairs = _pairs(ring, begin)
    if not is_number(number) or not _is_of_pairs(pairs, thing):
        return False
    return number <= thing[_start(begin)] and all([_holds(ring, last, thing, pair) for pair in pairs])


def _check_asked(ring, begin, last):
    if len(ring) > WIDEST:
        raise TooMany(WIDEST)
    check_name(ring.names(), begin)
    check_name(ring.names(), last)
    if last == begin:
        raise NoOrder("who begins is the last one of no order")


def _start(begin):
    return ((begin,), begin)


def _pairs(ring, begin):
    """All pairs (goers, name) that orders from there go by, those of fewer goers ahead."""
    others = [name for name in ring.names() if name != begin]
    pairs = [_start(begin)]
    for many in range(1, len(others) + 1):
        for gone in combinations(others, many):
            pairs.extend([(tuple(sorted([begin, *gone])), name) for name in gone])
    return pairs


def _steps(ring, pair):
    """The list, by places, of the pair behind each one that may go next and how many slips change for it: 0 or 1."""
    goers, name = pair
    sitting = who_sit(ring.names(), (*goers, name))
    led = sitting[ring.slip(name) % len(sitting)]
    return [((tuple(sorted([*goers, going])), going), int(going != led)) for going in sitting]


def _paper_of(ring, begin, last):
    """The dict from each pair to how few slips change from there on."""
    paper = {}
    for pair in reversed(_pairs(ring, begin)):
        goers, name = pair
        if len(goers) < len(ring):
            paper[pair] = min([paper[behind] + changed for behind, changed in _steps(ring, pair)])
        elif name == last:
            paper[pair] = 0
        else:
            # More than could be changed, so that no order is led here.
            paper[pair] = len(ring)
    return paper


def _first_by(ring, begin, paper):
    """The first order that goes by the fewest changes all along."""
    order = [begin]
    pair = _start(begin)
    while len(order) < len(ring):
        nexts = [behind for behind, changed in _steps(ring, pair) if paper[behind] + changed == paper[pair]]
        pair = nexts[0]
        order.append(pair[1])
    return tuple(order)


def _is_of_pairs(pairs, thing):
    """Whether it is a dict from just these pairs to numbers."""
    if not isinstance(thing, dict) or len(thing) != len(pairs):
        return False
    return all([pair in thing and is_number(thing[pair]) for pair in pairs])


def _holds(ring, last, paper, pair):
    """Whether the number of this pair isn't too high."""
    goers, name = pair
    if len(goers) == len(ring):
        return name != last or paper[pair] <= 0
    return all([paper[pair] <= paper[behind] + changed for behind, changed in _steps(ring, pair)])
