"""Worlds worked out by hand: with plans, without, and with traps."""

DONE = ("done",)

# Behind deed 0 one is in 1 or 2, and must tell them apart: deed 1 is right in 1
# and deed 2 in 2, the other way round one is in 4 and stays there. Look 0 tells
# them apart, look 1 does not.
FORK = (
    5,
    (
        ((1, 2), (), (), (), ()),
        ((), (3,), (4,), (), ()),
        ((), (4,), (3,), (), ()),
    ),
    ((0, 0, 1, 0, 0), (6, 5, 5, 4, 4)),
    (0,),
    (3,),
)
FORK_PLAN = (((0,), ("do", 0, (
    ((0,), ("do", 1, (((0,), DONE),))),
    ((1,), ("do", 2, (((0,), DONE),))),
))),)

# From each state to the next one; the last one is the goal and is never left.
LINE = (
    4,
    (((1,), (2,), (3,), (3,)),),
    ((0, 1, 2, 3), (0, 0, 0, 1)),
    (0, 2, 3),
    (3,),
)
LINE_PLAN = (
    ((0,), ("do", 0, (((1,), ("do", 0, (((2,), ("do", 0, (((3,), DONE),))),))),))),
    ((2,), ("do", 0, (((3,), DONE),))),
    ((3,), DONE),
)

# A begin in two parts, deeds that may lead to several states, deeds that can be
# done in some states alone, and, from the goal, a way out of it and back.
MAZE = (
    6,
    (
        ((2, 3), (3,), (4,), (), (4, 5), (5,)),
        ((), (2, 3), (), (4,), (), (4,)),
    ),
    ((0, 1, 0, 1, 0, 1), (7, 7, 8, 8, 9, 9)),
    (0, 1),
    (4,),
)
MAZE_END = (((0,), DONE),)
MAZE_FORK = (((0,), ("do", 0, MAZE_END)), ((1,), ("do", 1, MAZE_END)))
MAZE_PLAN = (
    ((0,), ("do", 0, MAZE_FORK)),
    ((1,), ("do", 0, (((1,), ("do", 1, MAZE_END)),))),
)
# Behind the goal's deed 0 one is in 4 or 5, and deed 0 again in 5 leads nowhere else.
MAZE_ROUND = (((0,), ("do", 0, (
    ((0,), DONE),
    ((1,), ("do", 0, (((1,), ("do", 1, MAZE_END)),))),
))),)
MAZE_LONG = (
    ((0,), ("do", 0, (((0,), ("do", 0, MAZE_ROUND)), ((1,), ("do", 1, MAZE_END))))),
    ((1,), ("do", 1, MAZE_FORK)),
)

# Deed 0 leads on, each state needing one deed less; deed 1 leads from 0 to 1, 2 or
# 3, and deed 2 to 2, 4 or 6, where 4 and 6 are never left but for one another. All
# is seen by look 0, falling; look 1 tells just 3 from the rest. Begin is the goal.
FOE = (
    7,
    (
        ((1,), (2,), (3,), (5,), (6,), (), (4,)),
        ((1, 2, 3), (), (2, 3, 5), (), (), (), ()),
        ((2, 4, 6), (), (), (4,), (6,), (), (4,)),
        ((1, 4), (1, 5), (), (3, 5), (), (), ()),
    ),
    ((9, 8, 7, 6, 5, 4, 3), (0, 0, 0, 1, 0, 0, 0)),
    (5,),
    (5,),
)

# States 0 and 1 only lead to one another, 2 may stay where it is; what is seen
# falls from 5 to 3 in another order than the states.
HELD = (
    4,
    (
        ((1,), (0,), (2, 3), (3,)),
        ((0, 1), (), (0, 3), (3,)),
    ),
    ((5, 3, 4, 0),),
    (0, 1, 2, 3),
    (3,),
)

# Round and round: whatever is done, one is in 0 or 1.
ROUND = (3, (((1,), (0,), (2,)), ((0, 1), (0,), (0,))), ((0, 1, 2),), (0, 1), (2,))

# A switch that is thrown blindly: deed 1 turns all states round, deed 0 brings 7 to 0.
# The looks tell ever more.
RING = (
    8,
    (
        ((0,), (1,), (2,), (3,), (4,), (5,), (6,), (0,)),
        ((1,), (2,), (3,), (4,), (5,), (6,), (7,), (0,)),
        ((0, 1), (1, 2), (2, 3), (3, 4), (4, 5), (5, 6), (6, 7), (0, 7)),
        ((), (1,), (), (3,), (), (5,), (), (7,)),
        ((0, 1, 2, 3, 4, 5, 6, 7),) * 8,
    ),
    ((0, 0, 0, 0, 1, 1, 1, 1), (0, 0, 1, 1, 0, 0, 1, 1), (0, 1, 0, 1, 0, 1, 0, 1), (9,) * 8),
    (0, 1, 2, 3, 4, 5, 6, 7),
    (0,),
)

# In 0 one may stay as long as one likes; deed 1 leads to the goal.
STAY = (2, (((0,), (1,)), ((1,), ())), ((0, 1),), (0,), (1,))


def stay_plan(turns, last):
    """A plan for 0 in STAY, seen by look 0: so many deeds that lead nowhere, and then the last step."""
    plan = (((0,), last),)
    for turn in range(turns):
        plan = (((0,), ("do", 0, plan)),)
    return plan


STAY_LAST = ("do", 1, (((1,), DONE),))

# Deed 0 leads from 0 alone, straight to the goal 2; deed 1 leads on everywhere. The
# look tells 0 from the others, and saves one deed.
BOTH = (3, (((2,), (), ()), ((1,), (2,), (2,))), ((0, 1, 1),), (0, 1), (2,))

# Behind deed 0 one is in 1, 2, 3 or 4, and deed 1, 2, 3 or 4 alone is right there; all
# others lead to 6, which is never left. FIRST tells 1 and 2 from 3 and 4, SECOND 1 and
# 3 from 2 and 4, EACH tells all four, NOTHING none.
FIRST = (0, 0, 0, 1, 1, 0, 0)
SECOND = (0, 0, 1, 0, 1, 0, 0)
EACH = (0, 1, 2, 3, 4, 0, 0)
NOTHING = (3,) * 7


def quad(looks):
    right = tuple(tuple(() if state in (0, 5, 6) else (5,) if state == deed else (6,) for state in range(7))
                  for deed in (1, 2, 3, 4))
    return (7, (((1, 2, 3, 4), (), (), (), (), (), ()),) + right, looks, (0,), (5,))


# One look, needed twice: behind deed 0 deed 1 is right in 1 and deed 2 in 2; both lead to 3
# or 4, where just the same is so once more.
TWICE = (
    6,
    (
        ((1, 2), (), (), (), (), ()),
        ((), (3, 4), (), (5,), (), ()),
        ((), (), (3, 4), (), (5,), ()),
    ),
    ((0, 0, 1, 0, 1, 0),),
    (0,),
    (5,),
)

# Deed 0 may fail again and again, deed 1 leads nowhere for ever; all is seen.
AGAIN = (2, (((0, 1), (1,)), ((0,), (1,))), ((0, 1),), (0,), (1,))

# By deed 0 one is in the goal 3 at once, or in 2, which is never left. Deed 1 may fail,
# and leads to 1, from where it leads to the goal. All is seen.
RISK = (4, (((2, 3), (), (), ()), ((0, 1), (3,), (), (3,))), ((0, 1, 2, 3),), (0,), (3,))

# Each deed may lead to the goal 4 or one state on, and 3 is never left. All is seen.
SLOPE = (5, (((1, 4), (2, 4), (3, 4), (), ()),), ((0, 1, 2, 3, 4),), (0,), (4,))

# STAY, with each state told twice: 0 and 2 are its 0, 1 and 3 its 1.
STAY_TWICE = (
    4,
    (((2,), (1, 3), (0, 2), (1,)), ((1, 3), (), (3,), ())),
    ((0, 1, 0, 1),),
    (2,),
    (1, 3),
)
