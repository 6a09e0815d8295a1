"""Works worked out by hand, and things that are none, for the tests."""

# Four states. Deed 0 may lead from 0 to 1 or 2; deed 1 can be done in 1 and 2
# alone; deed 2 can be done everywhere and may lead far from 3; deed 3 nowhere.
FOUR = (
    4,
    (
        ((1, 2), (3,), (0, 3), ()),
        ((), (3,), (1,), ()),
        ((0,), (1,), (2,), (0, 1, 2)),
        ((), (), (), ()),
    ),
    (
        (1, 0, 1, 0),
        (9, 9, 2, 2),
        (5, 5, 5, 5),
    ),
    (0, 1),
    (3,),
)

# The smallest works there are: one state, one deed, no look, no goal.
ONE = (1, (((0,),),), (), (0,), ())

# The largest: eight states, five deeds, four looks, all states in begin and goal.
ALL_EIGHT = (0, 1, 2, 3, 4, 5, 6, 7)
LARGE = (8, ((ALL_EIGHT,) * 8,) * 5, (ALL_EIGHT,) * 4, ALL_EIGHT, ALL_EIGHT)

# Two states, so that True and False would pass for each number in it.
TWO = (2, (((0, 1), (0,)), ((1,), ())), ((0, 1), (1, 0)), (0, 1), (1,))


class Strange:
    """A thing of no kind that the document knows, and that can't be compared."""

    __hash__ = None

    def __eq__(self, other):
        raise RuntimeError("compared")

    def __lt__(self, other):
        raise RuntimeError("compared")

    def __len__(self):
        raise RuntimeError("measured")


NO_NUMBERS = [None, True, False, "", "0", "1", 0.0, 1.0, float("nan"), b"1", (), (0,), (1,), [], [0], {}, {0: 1},
              {0}, 1j, int, len, Strange(), Strange]
NO_TUPLES = [None, True, False, 0, 1, -1, "", "0", "01", "a_text", 0.5, b"", b"\x00\x01", [], [0], [0, 1], {}, {0: 0},
             {0: 0, 1: 1}, set(), {0, 1}, frozenset([0]), range(1), range(2), iter(()), tuple, len, Strange(), Strange]


def replaced(thing, path, new):
    """The thing, with another one at the place to which the path of numbers leads."""
    if not path:
        return new
    first = path[0]
    return thing[:first] + (replaced(thing[first], path[1:], new),) + thing[first + 1:]


def at_path(thing, path):
    for number in path:
        thing = thing[number]
    return thing


def paths(thing, path=()):
    """The paths to all tuples and numbers within a thing, itself among them."""
    found = [path]
    if isinstance(thing, tuple):
        for number, inner in enumerate(thing):
            found.extend(paths(inner, path + (number,)))
    return found


def of_other_kinds():
    """Works in which one thing, at each place in turn, is of another kind."""
    for works in (FOUR, ONE, TWO):
        for path in paths(works):
            old = at_path(works, path)
            if isinstance(old, tuple):
                others = NO_TUPLES + [list(old)]
            else:
                others = NO_NUMBERS + [bool(old), float(old), str(old)]
            for other in others:
                yield replaced(works, path, other)


def no_crowds(many):
    """What are no crowds of so many states, the empty one aside."""
    return [(many,), (0, many), (-1,), (-1, 0), (0, 0), (many - 1, many - 1), (many - 1, 0), (10 ** 30,), (-10 ** 30,),
            (True,), (False,), (0, True), (None,), ("0",), (0.0,), ((0,),), ([0],), (0, None), (0, "1"), (Strange(),)]


def out_of_bounds():
    """Works of the right kinds, in which one bound or order is broken."""
    deed, look = TWO[1][0], TWO[2][0]
    for many in (-1, 0, 9, 10, 10 ** 30, -10 ** 30, 1, 3):
        yield replaced(TWO, (0,), many)
    yield (0, ((),), (), (), ())
    yield (0, ((),), ((),), (0,), ())
    yield (9, (((0,),) * 9,), (), (0,), ())
    yield (9, (((0,),) * 9,), ((0,) * 9,), ALL_EIGHT + (8,), ())
    for count in (0, 6, 7):
        yield replaced(TWO, (1,), (deed,) * count)
        yield replaced(LARGE, (1,), LARGE[1][:1] * count)
    for count in (5, 6):
        yield replaced(TWO, (2,), (look,) * count)
        yield replaced(LARGE, (2,), LARGE[2][:1] * count)
    for wrong_deed in ((), deed[:1], deed + ((0,),), deed + ((),)):
        yield replaced(TWO, (1, 0), wrong_deed)
        yield replaced(TWO, (1, 1), wrong_deed)
    for wrong_look in ((), look[:1], look + (0,)):
        yield replaced(TWO, (2, 0), wrong_look)
        yield replaced(TWO, (2, 1), wrong_look)
    for told in (-1, 10, 11, 10 ** 30, -10 ** 30):
        yield replaced(TWO, (2, 0, 0), told)
        yield replaced(TWO, (2, 1, 1), told)
    for crowd in no_crowds(2):
        for path in ((1, 0, 0), (1, 1, 1), (3,), (4,)):
            yield replaced(TWO, path, crowd)
    for crowd in no_crowds(8):
        for path in ((1, 0, 0), (1, 4, 7), (3,), (4,)):
            yield replaced(LARGE, path, crowd)
    yield replaced(TWO, (3,), ())
    yield replaced(ONE, (3,), ())


def of_other_lengths():
    """Tuples that have not just the five parts of works."""
    for works in (FOUR, ONE, TWO, LARGE):
        for count in range(5):
            yield works[:count]
        yield works + ((),)
        yield works + works
        yield (works,)


def no_works():
    yield from of_other_kinds()
    yield from out_of_bounds()
    yield from of_other_lengths()


def crowds_of(many, least=1):
    """All crowds of so many states."""
    found = []
    for bits in range(2 ** many):
        crowd = tuple(state for state in range(many) if bits >> state & 1)
        if len(crowd) >= least:
            found.append(crowd)
    return found
