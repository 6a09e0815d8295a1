"""Luck and patience, the strength of a choice of looks, blind rows, and what is needed if all is seen."""

import random
import unittest

from halfseen.crowds import after, doable
from halfseen.finding import fewest
from halfseen.strengths import blind_row, by_luck, patient_table, seen_whole, strength
from halfseen.works import all_looks
from tests.reference import (
    behind, choices, come_by, deeds_for, large_works, leads_there, many_works, parts_of, patience_is_vain, slow_coming,
    slow_fewest, slow_luck, slow_patience, some_works, within_goal)
from tests.samples import FOUR, LARGE, ONE, TWO, replaced
from tests.worlds import (
    AGAIN, BOTH, EACH, FOE, FORK, HELD, LINE, MAZE, RING, RISK, ROUND, SLOPE, STAY, STAY_TWICE, TWICE, quad)

# From 0 to 1 or to the goal 2, where the look tells the goal alone; 1 leads to the goal.
SOON = (3, (((1, 2), (2,), ()),), ((0, 0, 1),), (0,), (2,))
BY_HAND = [FOUR, ONE, TWO, LARGE, FORK, LINE, MAZE, FOE, HELD, ROUND, STAY, STAY_TWICE, BOTH, TWICE, AGAIN, RISK, SLOPE,
           SOON, quad((EACH,))]


def with_begin(works, begin):
    return replaced(works, (3,), begin)


def large_ones():
    return [RING, LARGE] + [large_works(seed) for seed in range(9)]


class TestByLuck(unittest.TestCase):
    def test_one_is_there_at_once(self):
        for looks in choices(LARGE):
            self.assertEqual(by_luck(LARGE, looks), 0)
        self.assertEqual(by_luck((1, (((),),), (), (0,), (0,)), ()), 0)

    def test_the_part_of_begin_is_chosen_for_the_best(self):
        self.assertEqual((by_luck(LINE, (0,)), fewest(LINE, (0,))), (0, 3))
        self.assertEqual(by_luck(with_begin(LINE, (0, 2)), (0,)), 1)
        self.assertEqual(by_luck(with_begin(LINE, (0, 1)), (0,)), 2)
        self.assertEqual(by_luck(HELD, (0,)), 0)
        self.assertEqual(by_luck(with_begin(HELD, (1, 2)), (0,)), 1)

    def test_what_is_not_told_apart_comes_together(self):
        self.assertEqual(by_luck(LINE, ()), 3)
        self.assertEqual(by_luck(with_begin(LINE, (0, 2)), ()), 3)
        self.assertEqual(by_luck(LINE, (1,)), 0)
        self.assertEqual(by_luck(with_begin(LINE, (0, 2)), (1,)), 1)

    def test_the_part_behind_a_deed_is_chosen_for_the_best(self):
        self.assertEqual((by_luck(SOON, (0,)), fewest(SOON, (0,))), (1, 2))
        self.assertEqual((by_luck(AGAIN, (0,)), fewest(AGAIN, (0,))), (1, None))
        self.assertEqual(by_luck(RISK, (0,)), 1)
        self.assertEqual(by_luck(SLOPE, (0,)), 1)

    def test_the_deed_is_chosen_for_the_best(self):
        self.assertEqual(by_luck(FORK, (0,)), 2)
        self.assertEqual(by_luck(TWICE, (0,)), 3)
        self.assertEqual(by_luck(quad((EACH,)), (0,)), 2)
        self.assertEqual(by_luck(with_begin(FOE, (0,)), (0,)), 2)
        self.assertEqual(by_luck(with_begin(FOE, (2,)), (0,)), 1)
        self.assertEqual(by_luck(STAY, ()), 1)

    def test_none_where_no_crowd_that_comes_is_there(self):
        self.assertIsNone(by_luck(FORK, ()))
        self.assertIsNone(by_luck(FORK, (1,)))
        self.assertIsNone(by_luck(SOON, ()))
        self.assertIsNone(by_luck(AGAIN, ()))
        self.assertIsNone(by_luck(with_begin(HELD, (0, 1)), (0,)))
        for works in BY_HAND:
            for looks in choices(works):
                self.assertIsNone(by_luck(replaced(works, (4,), ()), looks))

    def test_some_crowd_must_be_there_as_a_whole(self):
        # One may be in the goal behind each deed, but never knows it.
        self.assertIsNone(by_luck(ROUND, ()))
        self.assertIsNone(by_luck((2, (((0, 1), (0, 1)),), (), (0, 1), (1,)), ()))

    def test_against_a_slower_way(self):
        told = []
        for works, looks in many_works(41, 400):
            told.append(by_luck(works, looks))
            self.assertEqual(told[-1], slow_luck(works, looks), (works, looks))
            coming = slow_coming(works, looks)
            self.assertEqual(told[-1] is None, not any(within_goal(works, crowd) for crowd in coming))
        self.assertEqual([number for number in (None, 0, 1, 2, 3) if number not in told], [])

    def test_never_more_than_fewest(self):
        less = 0
        for works, looks in many_works(42, 400):
            most = fewest(works, looks)
            if most is not None:
                self.assertLessEqual(by_luck(works, looks), most)
                less += by_luck(works, looks) < most
        self.assertGreater(less, 10)

    def test_the_greatest_size(self):
        self.assertEqual(by_luck(RING, ()), 49)
        self.assertEqual(by_luck(RING, (0, 1, 2)), 0)
        for works in large_ones():
            for looks in choices(works):
                self.assertEqual(by_luck(works, looks), slow_luck(works, looks))


class TestPatientTable(unittest.TestCase):
    def right(self, works, looks):
        """The table that is told, gone through as [12] tells."""
        told = patient_table(works, looks)
        if told is None:
            return None
        self.assertIsInstance(told, list)
        for row in told:
            self.assertIsInstance(row, tuple)
            self.assertEqual(len(row), 2)
        table = dict(told)
        self.assertEqual(len(table), len(told))
        self.assertEqual([row[0] for row in told], sorted(table))
        for seen, part in parts_of(works, looks, works[3]):
            self.assertIn(part, table)
        for crowd, deed in told:
            self.assertEqual(deed is None, within_goal(works, crowd), (works, looks))
            if deed is not None:
                self.assertIs(deed.__class__, int)
                self.assertIn(deed, deeds_for(works, crowd))
                for seen, part in parts_of(works, looks, behind(works, crowd, deed)):
                    self.assertIn(part, table, (works, looks))
            self.assertTrue(leads_there(works, looks, table, crowd), (works, looks))
        self.assertEqual(come_by(works, looks, table), set(table), (works, looks))
        return told

    def test_a_deed_that_may_fail_again_and_again(self):
        self.assertEqual(patient_table(AGAIN, (0,)), [((0,), 0), ((1,), None)])
        self.assertIsNone(patient_table(AGAIN, ()))
        self.assertEqual(patient_table(with_begin(HELD, (2,)), (0,)), [((2,), 0), ((3,), None)])
        self.assertEqual(patient_table(with_begin(HELD, (2, 3)), (0,)), [((2,), 0), ((3,), None)])

    def test_deeds_that_may_lead_round_for_ever(self):
        # In 0 and 1 all but deed 2 leads round among the two; in 1 it can not be done.
        works = (3, (((1,), (0,), ()), ((0, 1), (0, 1), ()), ((1, 2), (), ())), ((0, 1, 2),), (0,), (2,))
        told = self.right(works, (0,))
        self.assertEqual([row[0] for row in told], [(0,), (1,), (2,)])
        self.assertEqual(told[0], ((0,), 2))
        # Without deed 2 one goes round for ever, whatever is done.
        self.assertIsNone(patient_table(replaced(works, (1,), works[1][:2]), (0,)))
        for looks in choices(ROUND):
            self.assertIsNone(patient_table(ROUND, looks))
        self.assertEqual(patient_table(STAY, (0,)), [((0,), 1), ((1,), None)])

    def test_a_safe_way_that_is_longer_than_luck(self):
        self.assertEqual(by_luck(RISK, (0,)), 1)
        self.assertEqual(patient_table(RISK, (0,)), [((0,), 1), ((1,), 1), ((3,), None)])

    def test_ways_that_may_end_badly_much_later(self):
        for begin in ((0,), (1,), (2,), (0, 2), (0, 1, 2, 4)):
            self.assertIsNone(patient_table(with_begin(SLOPE, begin), (0,)))
        self.assertEqual(patient_table(with_begin(SLOPE, (4,)), (0,)), [((4,), None)])
        # From 3 back to 0, and all is well.
        back = replaced(SLOPE, (1, 0, 3), (0,))
        self.assertEqual(patient_table(back, (0,)), [((0,), 0), ((1,), 0), ((2,), 0), ((3,), 0), ((4,), None)])

    def test_each_part_of_begin_counts(self):
        self.assertIsNone(patient_table(HELD, (0,)))
        self.assertIsNone(patient_table(with_begin(HELD, (1, 2)), (0,)))
        self.assertIsNone(patient_table(with_begin(AGAIN, (0, 1)), ()))
        self.assertEqual(patient_table(with_begin(AGAIN, (0, 1)), (0,)), [((0,), 0), ((1,), None)])

    def test_where_there_is_a_plan(self):
        self.assertEqual(patient_table(LINE, (0,)), [((0,), 0), ((1,), 0), ((2,), 0), ((3,), None)])
        self.assertEqual(patient_table(LINE, ()), [((0, 2, 3), 0), ((1, 3), 0), ((2, 3), 0), ((3,), None)])
        self.assertEqual(patient_table(FORK, (0,)), [((0,), 0), ((1,), 1), ((2,), 2), ((3,), None)])
        self.assertEqual(patient_table(FOE, (0,)), [((5,), None)])

    def test_crowds_that_do_not_come_by_it_are_not_told(self):
        # From the goal one could go on to 2.
        works = (3, (((1,), (2,), (0,)), ((2,), (), ())), ((0, 1, 2),), (0,), (1,))
        self.assertEqual(patient_table(works, (0,)), [((0,), 0), ((1,), None)])
        self.assertNotIn((4,), [row[0] for row in patient_table(FORK, (0,))])

    def test_rising_by_crowds(self):
        # What is seen falls, and 3 comes first of all.
        works = (4, (((0,), (0, 2), (0, 1), (1, 2)),), ((9, 8, 7, 6),), (3,), (0,))
        self.assertEqual(patient_table(works, (0,)), [((0,), None), ((1,), 0), ((2,), 0), ((3,), 0)])

    def test_all_tables_tried(self):
        source = random.Random(43)
        patient = vain = 0
        for number in range(400):
            works = some_works(source, source.randint(1, 3))
            for looks in choices(works):
                told = self.right(works, looks)
                self.assertEqual(told is not None, slow_patience(works, looks), (works, looks))
                patient += told is not None and slow_fewest(works, looks, works[3]) is None
                vain += told is None and slow_luck(works, looks) is not None
        self.assertGreater(patient, 10)
        self.assertGreater(vain, 10)

    def test_by_hand_and_by_chance(self):
        for works, looks in many_works(44, 400) + [(works, looks) for works in BY_HAND for looks in choices(works)]:
            told = self.right(works, looks)
            self.assertEqual(told is None, patience_is_vain(works, looks), (works, looks))

    def test_the_greatest_size(self):
        told = []
        for works in large_ones():
            for looks in choices(works):
                told.append(self.right(works, looks))
                self.assertEqual(told[-1] is None, patience_is_vain(works, looks), (works, looks))
        self.assertIn(None, told)
        self.assertGreater(len(told) - told.count(None), 50)


class TestStrength(unittest.TestCase):
    def test_sure(self):
        for works, looks in ((FORK, (0,)), (LINE, ()), (LARGE, ()), (FOE, ()), (RING, ()), (SOON, (0,)), (STAY, ())):
            self.assertEqual(strength(works, looks), "sure")

    def test_patient(self):
        for works, looks in ((AGAIN, (0,)), (RISK, (0,)), (with_begin(HELD, (2,)), (0,)), (with_begin(HELD, (2, 3)), (0,))):
            self.assertEqual(strength(works, looks), "patient")

    def test_lucky(self):
        for works, looks in ((SLOPE, (0,)), (HELD, (0,)), (with_begin(HELD, (0, 3)), (0,)), (with_begin(RISK, (2, 3)), (0,))):
            self.assertEqual(strength(works, looks), "lucky")

    def test_never(self):
        for works, looks in ((FORK, ()), (FORK, (1,)), (ROUND, (0,)), (AGAIN, ()), (SOON, ()), (ONE, ())):
            self.assertEqual(strength(works, looks), "never")

    def test_the_first_that_is_so(self):
        told = []
        for works, looks in many_works(45, 400) + [(works, looks) for works in BY_HAND for looks in choices(works)]:
            told.append(strength(works, looks))
            if slow_fewest(works, looks, works[3]) is not None:
                self.assertEqual(told[-1], "sure")
                self.assertIsNotNone(patient_table(works, looks))
            elif not patience_is_vain(works, looks):
                self.assertEqual(told[-1], "patient")
                self.assertIsNotNone(by_luck(works, looks))
            elif slow_luck(works, looks) is not None:
                self.assertEqual(told[-1], "lucky")
            else:
                self.assertEqual(told[-1], "never")
        for word in ("sure", "patient", "lucky", "never"):
            self.assertGreater(told.count(word), 10)

    def test_the_greatest_size(self):
        told = [strength(works, looks) for works in large_ones() for looks in choices(works)]
        self.assertIn("sure", told)
        self.assertIn("patient", told)


class TestBlindRow(unittest.TestCase):
    def right(self, works):
        told = blind_row(works)
        most = slow_fewest(works, (), works[3])
        if most is None:
            self.assertIsNone(told, works)
        else:
            self.assertIsInstance(told, list)
            self.assertEqual(len(told), most, works)
            crowd = works[3]
            for deed in told:
                self.assertIs(deed.__class__, int)
                self.assertIn(deed, doable(works, crowd))
                crowd = after(works, crowd, deed)
            self.assertTrue(within_goal(works, crowd), works)
        return told

    def test_worked_out_by_hand(self):
        self.assertEqual(blind_row(LINE), [0, 0, 0])
        self.assertEqual(blind_row(with_begin(LINE, (2, 3))), [0])
        self.assertEqual(blind_row(BOTH), [1, 1])
        self.assertEqual(blind_row(with_begin(BOTH, (0,))), [0])
        self.assertEqual(blind_row(STAY), [1])
        self.assertEqual(blind_row(STAY_TWICE), [1])

    def test_deeds_in_their_order(self):
        works = (4, (((1,), (0,), (0,), ()), ((0,), (2,), (0,), ()), ((0,), (0,), (3,), ())), (), (0,), (3,))
        self.assertEqual(blind_row(works), [0, 1, 2])

    def test_the_empty_list(self):
        for works in (LARGE, FOE, with_begin(LINE, (3,)), (1, (((),),), (), (0,), (0,))):
            told = blind_row(works)
            self.assertEqual(told, [])
            self.assertIsInstance(told, list)

    def test_none(self):
        for works in (FORK, MAZE, ROUND, HELD, AGAIN, SOON, ONE, quad((EACH,)), replaced(LINE, (4,), ())):
            self.assertIsNone(blind_row(works))

    def test_against_a_slower_way(self):
        source = random.Random(46)
        lengths = []
        for works in BY_HAND + [some_works(source) for number in range(600)]:
            told = self.right(works)
            lengths.append(None if told is None else len(told))
        self.assertEqual([length for length in (None, 0, 1, 2, 3) if length not in lengths], [])

    def test_the_greatest_size(self):
        self.assertEqual(len(blind_row(RING)), 49)
        for works in large_ones():
            self.assertEqual(blind_row(works) is None, fewest(works, ()) is None)
            self.right(works)


class TestSeenWhole(unittest.TestCase):
    def right(self, works):
        for look in (tuple(range(works[0])), tuple(9 - state for state in range(works[0]))):
            self.assertEqual(seen_whole(works), slow_fewest(replaced(works, (2,), (look,)), (0,), works[3]), works)

    def test_worked_out_by_hand(self):
        self.assertEqual(seen_whole(FORK), 2)
        self.assertEqual(seen_whole(replaced(FORK, (2,), ())), 2)
        self.assertEqual(seen_whole(quad(())), 2)
        self.assertEqual(seen_whole(BOTH), 1)
        self.assertEqual(seen_whole(LINE), 3)
        self.assertEqual(seen_whole(SOON), 2)
        self.assertEqual(seen_whole(RING), 7)
        self.assertEqual(seen_whole(LARGE), 0)
        self.assertEqual(seen_whole(TWICE), 3)

    def test_none(self):
        for works in (ONE, ROUND, HELD, AGAIN, RISK, SLOPE, replaced(LINE, (4,), ())):
            self.assertIsNone(seen_whole(works))

    def test_the_looks_do_not_matter(self):
        for works in BY_HAND:
            self.assertEqual(seen_whole(works), seen_whole(replaced(works, (2,), ())))
            self.assertEqual(seen_whole(works), seen_whole(replaced(works, (2,), ((3,) * works[0],) * 4)))

    def test_never_more_than_with_all_looks(self):
        for works in BY_HAND:
            most = fewest(works, all_looks(works))
            if most is not None:
                self.assertLessEqual(seen_whole(works), most)

    def test_against_a_slower_way(self):
        source = random.Random(47)
        for works in BY_HAND + [some_works(source) for number in range(400)]:
            self.right(works)

    def test_the_greatest_size(self):
        for works in large_ones():
            look = tuple(range(8))
            self.assertEqual(seen_whole(works), fewest(replaced(works, (2,), (look,)), (0,)))


if __name__ == "__main__":
    unittest.main()
