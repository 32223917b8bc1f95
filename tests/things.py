"""Things of all the kinds that may be handed in where anything may."""


def nested(depth):
    """Lists, tuples and dicts, so many within one another."""
    thing = 0
    for level in range(depth):
        thing = ([thing], (thing,), {level: thing})[level % 3]
    return thing


NO_NUMBERS = [
    True, False, None, "", "a", "1", "abc def", "a\nb", [], [0], [1, 2], (), (0,), (0, 1), {}, {"a": 1},
    {0: 1, None: (1, [2])}, {(0, 1): "x"}, [None, True], ((0, 1), (0, 1)), nested(20),
]

ANYTHING = NO_NUMBERS + [0, 1, -1, 2, 10 ** 60 - 1, 1 - 10 ** 60]

NO_NAMES = [thing for thing in ANYTHING if thing != "a"] + [
    "A", "aB", "a1", "a b", " a", "a ", "a-b", "a\n", "\n", "abcdefghi", "a_b", "`", "{", "ab.",
]

NO_RESTS = [thing for thing in ANYTHING if thing != (0, 1)] + [
    (0, 0), (1, 1), (-1, 2), (2, 2), (3, 2), (0, -1), (0, -2), (-1, -2), [0, 1], {0: 1}, (0, 1, 2), (1,),
    (False, 1), (0, True), (True, 2), (False, True), (None, 1), (0, None), ("0", "1"), "01", ((0,), 1), ([0], [1]),
    (10 ** 59, 10 ** 59), (-1, 10 ** 59),
]

# No rows of names that a ring could have: one, thirteen, one twice, what is no name, no list.
NO_ROWS = ANYTHING + [["a", thing] for thing in NO_NAMES] + [
    ["a"], ("b",), list("abcdefghijklm"), ["a", "a"], ["a", "b", "a"], ("a", "b", "b"), ["a", "B"], ["a", ["b"]],
    ["a", {"b": 1}], [True, False], "ab", {"a": 1, "b": 2}, [("a", "b")], [["a", "b"], ["c"]],
]
