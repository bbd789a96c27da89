"""Things of many kinds, for what may be asked of anything."""


def nested(depth, inner, make):
    thing = inner
    for _ in range(depth):
        thing = make([thing])
    return thing


# None of these is a number, a word, a run or a list of runs.
ODD_THINGS = [
    True, False, None, "", "1", "left", "(1, 3)", [], [1], [1, 3], [[1, 3]],
    [True], [None], ["1"], [(1,)], [(1, 2)], [(3, 1)], [(1, 3, 5)], [(True, 3)], [()],
    (True,), (False,), (None,), ("1",), ("",), ((),), ((1,),), ((1, 3),), ([1],),
    (1, True), (1, "3"), (1, None), (1, (3,)), (1, [3]), ("1", "3"), (0,), (-1,), (1, 0),
    nested(10, 1, tuple), nested(10, 1, list), nested(10, True, tuple), nested(10, None, list),
]
