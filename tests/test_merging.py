"""Alike: the states that are, and merged works."""

import random
import unittest

from halfseen.finding import a_plan, fewest
from halfseen.merging import alike_states, merged
from halfseen.plans import deepest
from halfseen.works import checked
from tests.reference import blown_up, choices, large_works, slow_alike, slow_fewest, some_works
from tests.samples import ALL_EIGHT, FOUR, LARGE, ONE, TWO, replaced
from tests.worlds import (
    AGAIN, BOTH, EACH, FIRST, FOE, FORK, HELD, LINE, MAZE, RING, RISK, ROUND, SLOPE, STAY, STAY_TWICE, TWICE, quad)

# Nothing tells these apart: all may lead to all.
EVEN = (4, (((0, 1, 2, 3),) * 4, ((2,), (3,), (0, 1), (1, 3))), ((5, 5, 5, 5),), (1, 2), (0, 1, 2, 3))

# From 0 to 2 to 4, from 1 to 3 to 5, and so on with no end, but for 6 and 7, of which 7 alone is in the goal.
TWO_LINES = (8, (((2,), (3,), (4,), (5,), (6,), (7,), (6,), (7,)),), (), (0, 1), (7,))

BY_HAND = [FOUR, ONE, TWO, LARGE, FORK, LINE, MAZE, FOE, HELD, ROUND, STAY, STAY_TWICE, BOTH, TWICE, AGAIN, RISK, SLOPE,
           EVEN, quad((EACH,)), quad((FIRST,))]


def some_blown_up(seed, count):
    """Tuples of works and of larger ones, in which each state is like one of these."""
    source = random.Random(seed)
    found = []
    for number in range(count):
        works = some_works(source)
        found.append((works, blown_up(source, works, source.randint(works[0], 6))))
    return found


class TestAlikeStates(unittest.TestCase):
    def test_states_that_are_told_twice(self):
        self.assertEqual(alike_states(STAY_TWICE), [[0, 2], [1, 3]])
        self.assertEqual(alike_states(STAY), [[0], [1]])

    def test_by_the_goal(self):
        self.assertEqual(alike_states(replaced(EVEN, (4,), (0, 1))), [[0], [1], [2], [3]])
        works = (3, (((0, 1, 2),) * 3,), (), (0,), (1,))
        self.assertEqual(alike_states(works), [[0, 2], [1]])
        self.assertEqual(alike_states(replaced(works, (4,), (0, 2))), [[0, 2], [1]])

    def test_by_a_look(self):
        works = (3, (((0, 1, 2),) * 3,), ((4, 4, 4), (7, 8, 7)), (0,), ())
        self.assertEqual(alike_states(works), [[0, 2], [1]])
        self.assertEqual(alike_states(replaced(works, (2,), works[2][::-1])), [[0, 2], [1]])
        self.assertEqual(alike_states(replaced(works, (2,), works[2][:1])), [[0, 1, 2]])
        self.assertEqual(alike_states(replaced(works, (2,), works[2] + ((0, 0, 9),))), [[0], [1], [2]])

    def test_by_where_a_deed_leads(self):
        works = (4, (((2,), (3,), (2,), (3,)),), (), (0,), (3,))
        self.assertEqual(alike_states(works), [[0, 2], [1], [3]])
        # 0 may lead to the goal or not, 1 never does.
        works = (4, (((2, 3), (2,), (2,), (3,)),), (), (0,), (3,))
        self.assertEqual(alike_states(works), [[0], [1, 2], [3]])

    def test_by_whether_a_deed_can_be_done(self):
        works = (3, (((0,), (), (2,)), ((0,), (1,), (2,))), (), (0,), ())
        self.assertEqual(alike_states(works), [[0, 2], [1]])
        works = (3, (((), (), (2,)),), (), (0,), ())
        self.assertEqual(alike_states(works), [[0, 1], [2]])

    def test_by_what_comes_behind_two_deeds_or_more(self):
        self.assertEqual(alike_states(replaced(LINE, (2,), ())), [[0], [1], [2], [3]])
        self.assertEqual(alike_states(TWO_LINES), [[0, 2, 4, 6], [1], [3], [5], [7]])
        self.assertEqual(alike_states(replaced(TWO_LINES, (4,), (6, 7))), [[0, 1], [2, 3], [4, 5], [6, 7]])
        self.assertEqual(alike_states(replaced(TWO_LINES, (4,), ())), [list(ALL_EIGHT)])
        # 0 and 3 differ by what the look tells behind three deeds alone.
        works = (7, (((1,), (2,), (6,), (4,), (5,), (0,), (6,)),), ((0, 0, 0, 0, 0, 0, 1),), (0,), ())
        self.assertEqual(alike_states(works), [[0], [1], [2], [3], [4], [5], [6]])

    def test_how_many_of_a_kind_a_deed_leads_to_does_not_matter(self):
        works = (4, (((2,), (2, 3), (), ()), ((), (), (0, 1), (1,))), (), (0,), (2, 3))
        self.assertEqual(alike_states(works), [[0, 1], [2, 3]])

    def test_begin_does_not_matter(self):
        for begin in ((0,), (2,), (0, 2), (1, 2, 3), (0, 1, 2, 3)):
            self.assertEqual(alike_states(replaced(STAY_TWICE, (3,), begin)), [[0, 2], [1, 3]])

    def test_one_kind_alone(self):
        self.assertEqual(alike_states(EVEN), [[0, 1, 2, 3]])
        self.assertEqual(alike_states(ONE), [[0]])
        self.assertEqual(alike_states(replaced(LARGE, (2,), ())), [list(ALL_EIGHT)])
        self.assertEqual(alike_states((2, (((), ()),), (), (0,), ())), [[0, 1]])

    def test_each_state_of_a_kind_of_its_own(self):
        self.assertEqual(alike_states(LARGE), [[state] for state in ALL_EIGHT])
        self.assertEqual(alike_states(RING), [[state] for state in ALL_EIGHT])

    def test_kinds(self):
        told = alike_states(STAY_TWICE)
        self.assertIsInstance(told, list)
        for states in told:
            self.assertIsInstance(states, list)

    def test_all_partings_tried(self):
        source = random.Random(61)
        counts = []
        for works in BY_HAND + [some_works(source, 5) for number in range(100)] + [more for works, more in some_blown_up(62, 200)]:
            if works[0] <= 6:
                told = alike_states(works)
                self.assertEqual(told, slow_alike(works), works)
                counts.append(works[0] - len(told))
        self.assertEqual([count for count in range(5) if count not in counts], [])


class TestMerged(unittest.TestCase):
    def right(self, works):
        told = merged(works)
        self.assertIs(checked(told), told)
        self.assertEqual(told[0], len(alike_states(works)))
        self.assertEqual(merged(told), told, works)
        self.assertEqual(alike_states(told), [[state] for state in range(told[0])])
        for looks in choices(works):
            self.assertEqual(fewest(told, looks), fewest(works, looks), (works, looks))
            plan = a_plan(works, looks)
            if plan is None:
                self.assertIsNone(a_plan(told, looks))
            else:
                self.assertEqual(deepest(told, looks, plan), fewest(works, looks))
                self.assertEqual(deepest(works, looks, a_plan(told, looks)), fewest(works, looks))
        return told

    def test_worked_out_by_hand(self):
        self.assertEqual(merged(STAY_TWICE), STAY)
        self.assertEqual(merged(EVEN), (1, (((0,),), ((0,),)), ((5,),), (0,), (0,)))
        self.assertEqual(
            merged(TWO_LINES), (5, (((0,), (2,), (3,), (4,), (4,)),), (), (0, 1), (4,)))
        works = (3, (((0,), (), (2,)), ((0, 2), (2,), (0,))), ((8, 9, 8),), (1, 2), ())
        self.assertEqual(merged(works), (2, (((0,), ()), ((0,), (0,))), ((8, 9),), (0, 1), ()))

    def test_numbered_by_the_first_states(self):
        works = (4, (((3,), (2,), (1,), (0,)),), ((9, 3, 3, 9),), (0, 1, 2, 3), (1, 2))
        self.assertEqual(merged(works), (2, (((0,), (1,)),), ((9, 3),), (0, 1), (1,)))

    def test_deeds_and_looks_keep_their_numbers(self):
        works = (2, (((0,), (1,)), ((), ()), ((1,), (0,)), ((), ())), ((1, 1), (0, 0), (1, 1)), (0,), ())
        self.assertEqual(merged(works), (1, (((0,),), ((),), ((0,),), ((),)), ((1,), (0,), (1,)), (0,), ()))

    def test_begin_is_the_kinds_of_its_states(self):
        for begin, told in (((0,), (0,)), ((2,), (0,)), ((0, 2), (0,)), ((3,), (1,)), ((1, 2), (0, 1)), ((0, 1, 2), (0, 1))):
            self.assertEqual(merged(replaced(STAY_TWICE, (3,), begin)), replaced(STAY, (3,), told))

    def test_works_without_alike_states_stay_as_they_are(self):
        for works in (LARGE, RING, LINE, STAY, ONE):
            self.assertEqual(merged(works), works)

    def test_merged_once_more_the_same(self):
        for works in BY_HAND:
            self.assertEqual(merged(merged(works)), merged(works))

    def test_by_hand(self):
        for works in BY_HAND:
            self.right(works)

    def test_by_chance(self):
        fewer = 0
        for works, more in some_blown_up(63, 200):
            told = self.right(more)
            self.assertEqual(told[0], merged(works)[0])
            fewer += told[0] < more[0]
            for looks in choices(works):
                self.assertEqual(fewest(told, looks), slow_fewest(works, looks, works[3]))
        self.assertGreater(fewer, 100)

    def test_the_greatest_size(self):
        source = random.Random(64)
        for number in range(12):
            works = some_works(source, 4)
            more = blown_up(source, replaced(works, (2,), (tuple(range(4)), (0, 1, 0, 1), (3,) * 4, (9, 9, 0, 0))), 8)
            self.right(more)
        for seed in range(4):
            self.right(large_works(seed))


if __name__ == "__main__":
    unittest.main()
