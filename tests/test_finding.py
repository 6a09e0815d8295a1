"""Finding plans: the fewest deeds, and plans that have just so many."""

import copy
import time
import unittest

from halfseen.finding import a_plan, fewest
from halfseen.works import all_looks
from tests.reference import choices, deeds_at_worst, large_works, many_works, slow_fewest, where_it_fails
from tests.samples import ALL_EIGHT, FOUR, LARGE, ONE, TWO, replaced
from tests.worlds import FOE, FORK, HELD, LINE, MAZE, RING, ROUND, STAY


def fewest_by_bits(works, looks):
    """The fewest deeds for begin, by a table of all crowds there are, each as the bits of a number."""
    many, deeds, tellers, begin, goal = works
    bits = [sum(1 << state for state in crowd) for crowd in (begin, goal)]
    sights = {}
    for state in range(many):
        seen = tuple(tellers[look][state] for look in looks)
        sights[seen] = sights.get(seen, 0) | 1 << state
    parts = [[crowd & sight for sight in sights.values() if crowd & sight] for crowd in range(2 ** many)]
    leads = []
    for deed in deeds:
        row = []
        for crowd in range(2 ** many):
            states = [state for state in range(many) if crowd >> state & 1]
            if any(not deed[state] for state in states):
                row.append(None)
            else:
                row.append(sum(1 << target for target in {target for state in states for target in deed[state]}))
        leads.append(row)
    depth = {crowd: 0 for crowd in range(2 ** many) if crowd & bits[1] == crowd}
    turn = 0
    while True:
        turn += 1
        known = dict(depth)
        for crowd in range(2 ** many):
            if crowd not in known:
                for row in leads:
                    if row[crowd] is not None and all(part in known for part in parts[row[crowd]]):
                        depth[crowd] = turn
        if len(known) == len(depth):
            break
    if any(part not in depth for part in parts[bits[0]]):
        return None
    return max(depth[part] for part in parts[bits[0]])


class TestFewest(unittest.TestCase):
    def test_none_needed_just_where_all_of_begin_is_in_the_goal(self):
        for looks in choices(FOUR):
            self.assertEqual(fewest(replaced(FOUR, (4,), (0, 1)), looks), 0)
            self.assertEqual(fewest(replaced(FOUR, (4,), (0, 1, 3)), looks), 0)
            self.assertEqual(fewest(replaced(FOUR, (4,), (0, 1, 2, 3)), looks), 0)
            self.assertNotEqual(fewest(replaced(FOUR, (4,), (0, 3)), looks), 0)
            self.assertNotEqual(fewest(replaced(FOUR, (4,), (1, 2)), looks), 0)
        for looks in choices(LARGE):
            self.assertEqual(fewest(LARGE, looks), 0)
        self.assertEqual(fewest((1, (((),),), (), (0,), (0,)), ()), 0)

    def test_a_state_out_of_the_goal_that_is_told_apart_counts_too(self):
        self.assertEqual(fewest(replaced(LINE, (3,), (2, 3)), (0,)), 1)
        self.assertEqual(fewest(replaced(LINE, (3,), (3,)), (0,)), 0)

    def test_a_plan_that_must_fork(self):
        self.assertEqual(fewest(FORK, (0,)), 2)
        self.assertEqual(fewest(FORK, (0, 1)), 2)
        self.assertIsNone(fewest(FORK, ()))
        self.assertIsNone(fewest(FORK, (1,)))

    def test_parts_of_different_depths(self):
        for looks in choices(LINE):
            self.assertEqual(fewest(LINE, looks), 3)
        self.assertEqual(fewest(replaced(LINE, (3,), (2, 3)), ()), 1)
        self.assertEqual(fewest(replaced(LINE, (3,), (1, 3)), (1,)), 2)

    def test_deeds_that_may_lead_to_several_states(self):
        self.assertEqual(fewest(MAZE, (0,)), 2)
        self.assertEqual(fewest(MAZE, (0, 1)), 2)
        # The foe keeps one in 0 for ever.
        self.assertIsNone(fewest((2, (((0, 1), (1,)),), ((0, 1),), (0,), (1,)), (0,)))
        self.assertEqual(fewest((2, (((0, 1), (1,)),), ((0, 1),), (0,), (0, 1)), (0,)), 0)
        # Both ways are good, the longer one counts.
        self.assertEqual(fewest((3, (((1, 2), (2,), ()),), ((0, 0, 1),), (0,), (2,)), (0,)), 2)

    def test_a_goal_that_can_not_be_kept_without_a_look(self):
        # Behind the first deed one may be in the goal, but does not know it, and 2 has no deed.
        self.assertIsNone(fewest((3, (((1, 2), (2,), ()),), ((0, 0, 1),), (0,), (2,)), ()))

    def test_a_deed_that_can_be_done_in_some_states_alone(self):
        self.assertIsNone(fewest(MAZE, ()))
        self.assertIsNone(fewest(MAZE, (1,)))
        both = (3, (((2,), (), ()), ((1,), (2,), (2,))), ((0, 1, 1),), (0, 1), (2,))
        self.assertEqual(fewest(both, (0,)), 1)
        self.assertEqual(fewest(both, ()), 2)

    def test_the_numbers_of_looks_are_those_of_the_works(self):
        swapped = replaced(FORK, (2,), (FORK[2][1], FORK[2][0]))
        self.assertEqual(fewest(swapped, (1,)), 2)
        self.assertIsNone(fewest(swapped, (0,)))

    def test_no_plan(self):
        for works in (FOUR, ONE, TWO, LARGE, FORK, LINE, MAZE, RING, STAY):
            nowhere = replaced(works, (4,), ())
            for looks in choices(nowhere):
                self.assertIsNone(fewest(nowhere, looks))
                self.assertIsNone(a_plan(nowhere, looks))
        self.assertIsNone(fewest((2, (((), ()),), ((0, 1),), (0, 1), (1,)), (0,)))

    def test_crowds_that_go_round_and_round(self):
        for looks in choices(ROUND):
            self.assertIsNone(fewest(ROUND, looks))
            self.assertIsNone(a_plan(ROUND, looks))
        self.assertIsNone(fewest(HELD, (0,)))

    def test_one_part_of_begin_without_a_plan_is_enough_for_none(self):
        self.assertEqual(fewest(replaced(HELD, (3,), (3,)), (0,)), 0)
        self.assertIsNone(fewest(replaced(HELD, (3,), (1, 3)), (0,)))
        self.assertIsNone(fewest(replaced(HELD, (3,), (0, 3)), (0,)))

    def test_rounds_that_can_be_left(self):
        self.assertEqual(fewest(STAY, (0,)), 1)
        self.assertEqual(fewest(STAY, ()), 1)

    def test_a_long_way(self):
        # A ring of eight with one shunt takes seven times seven blind deeds.
        self.assertEqual(fewest(RING, ()), 49)
        self.assertEqual(fewest(RING, (3,)), 49)
        self.assertEqual(fewest(RING, (0, 1, 2)), 7)
        self.assertEqual(fewest(RING, all_looks(RING)), 7)

    def test_against_a_slower_way(self):
        told = []
        for works, looks in many_works(1, 400):
            told.append(fewest(works, looks))
            self.assertEqual(told[-1], slow_fewest(works, looks, works[3]), (works, looks))
        self.assertEqual([number for number in (None, 0, 1, 2, 3) if number not in told], [])

    def test_the_greatest_size(self):
        begun = time.monotonic()
        told = []
        for works in [RING, LARGE] + [large_works(seed) for seed in range(12)]:
            for looks in choices(works):
                told.append(fewest(works, looks))
                self.assertEqual(told[-1], fewest_by_bits(works, looks), (works, looks))
        self.assertGreater(len([number for number in told if number]), 20)
        self.assertIn(None, told)
        self.assertLess(time.monotonic() - begun, 120)


class TestAPlan(unittest.TestCase):
    def right(self, works, looks):
        plan = a_plan(works, looks)
        most = fewest(works, looks)
        if most is None:
            self.assertIsNone(plan)
        else:
            self.assertIsInstance(plan, tuple)
            self.assertIsNone(where_it_fails(works, looks, works[3], plan), (works, looks))
            self.assertEqual(deeds_at_worst(plan), most, (works, looks))
        return plan

    def test_where_one_is_there_at_once(self):
        self.assertEqual(a_plan(LARGE, ()), (((), ("done",)),))
        self.assertEqual(a_plan(LARGE, (1, 3)), tuple(((state, state), ("done",)) for state in ALL_EIGHT))

    def test_the_one_plan_there_is(self):
        last = (((0,), ("done",)),)
        self.assertEqual(
            a_plan(FORK, (0,)),
            (((0,), ("do", 0, (((0,), ("do", 1, last)), ((1,), ("do", 2, last))))),))
        self.assertEqual(
            a_plan(replaced(LINE, (3,), (2, 3)), (0,)),
            (((2,), ("do", 0, (((3,), ("done",)),))), ((3,), ("done",))))
        self.assertEqual(a_plan(STAY, ()), (((), ("do", 1, (((), ("done",)),))),))

    def test_worked_out_by_hand(self):
        for works in (FORK, LINE, MAZE, FOE, HELD, ROUND, STAY, FOUR, ONE, TWO):
            for looks in choices(works):
                self.right(works, looks)

    def test_by_chance(self):
        for works, looks in many_works(2, 400):
            self.right(works, looks)

    def test_the_greatest_size(self):
        plans = []
        for works in [RING] + [large_works(seed) for seed in range(12)]:
            for looks in choices(works):
                plans.append(self.right(works, looks))
        self.assertIn(None, plans)
        self.assertGreater(len(plans) - plans.count(None), 20)


class TestNothingIsChanged(unittest.TestCase):
    def test_what_is_handed_in_stays_as_it_was(self):
        works, looks = copy.deepcopy(MAZE), (0, 1)
        fewest(works, looks)
        a_plan(works, looks)
        self.assertEqual((works, looks), (MAZE, (0, 1)))

    def test_nothing_is_kept_between_calls(self):
        first = (fewest(MAZE, (0,)), a_plan(FORK, (0,)))
        for works in (RING, ROUND, FORK, MAZE):
            for looks in choices(works):
                fewest(works, looks)
                a_plan(works, looks)
        self.assertEqual((fewest(MAZE, (0,)), a_plan(FORK, (0,))), first)


if __name__ == "__main__":
    unittest.main()
