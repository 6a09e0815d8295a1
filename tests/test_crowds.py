"""Crowds: what can be done with them, where it leads, how looks part them, and what is refused."""

import copy
import unittest

from halfseen.crowds import after, doable, parts
from halfseen.errors import BadCrowd, BadDeed, BadLooks, BadWorks
from halfseen.works import all_looks
from tests.samples import (
    ALL_EIGHT, FOUR, LARGE, NO_NUMBERS, NO_TUPLES, ONE, TWO, crowds_of, no_crowds, replaced)

NO_CHOICES_OF_TWO = NO_TUPLES + no_crowds(2) + [(0, 1, 2), (1, 0), (0, 0, 1), (0, 1, 1)]


class TestDoable(unittest.TestCase):
    def test_with_one_state(self):
        self.assertEqual(doable(FOUR, (0,)), [0, 2])
        self.assertEqual(doable(FOUR, (1,)), [0, 1, 2])
        self.assertEqual(doable(FOUR, (2,)), [0, 1, 2])
        self.assertEqual(doable(FOUR, (3,)), [2])

    def test_only_what_can_be_done_in_all_states(self):
        self.assertEqual(doable(FOUR, (1, 2)), [0, 1, 2])
        self.assertEqual(doable(FOUR, (0, 1)), [0, 2])
        self.assertEqual(doable(FOUR, (0, 1, 2)), [0, 2])
        self.assertEqual(doable(FOUR, (1, 3)), [2])
        self.assertEqual(doable(FOUR, (0, 1, 2, 3)), [2])

    def test_nothing_can_be_done(self):
        self.assertEqual(doable(replaced(TWO, (1, 0), ((), (1,))), (0, 1)), [])
        self.assertEqual(doable((1, (((),),), (), (0,), ()), (0,)), [])

    def test_the_edges(self):
        self.assertEqual(doable(ONE, (0,)), [0])
        self.assertEqual(doable(LARGE, ALL_EIGHT), [0, 1, 2, 3, 4])

    def test_a_told_list_is_a_new_one(self):
        told = doable(FOUR, (0,))
        self.assertIsInstance(told, list)
        told.clear()
        self.assertEqual(doable(FOUR, (0,)), [0, 2])


class TestAfter(unittest.TestCase):
    def test_from_one_state(self):
        self.assertEqual(after(FOUR, (0,), 0), (1, 2))
        self.assertEqual(after(FOUR, (1,), 0), (3,))
        self.assertEqual(after(FOUR, (2,), 0), (0, 3))
        self.assertEqual(after(FOUR, (2,), 1), (1,))
        self.assertEqual(after(FOUR, (3,), 2), (0, 1, 2))

    def test_from_several_states(self):
        self.assertEqual(after(FOUR, (0, 1), 0), (1, 2, 3))
        self.assertEqual(after(FOUR, (1, 2), 0), (0, 3))
        self.assertEqual(after(FOUR, (0, 1, 2), 0), (0, 1, 2, 3))
        self.assertEqual(after(FOUR, (1, 2), 1), (1, 3))
        self.assertEqual(after(FOUR, (0, 2), 2), (0, 2))
        self.assertEqual(after(FOUR, (2, 3), 2), (0, 1, 2))

    def test_the_crowd_rises_though_the_deed_leads_back(self):
        back = (3, (((2,), (1,), (0,)),), (), (0,), ())
        self.assertEqual(after(back, (0, 1, 2), 0), (0, 1, 2))
        self.assertEqual(after(back, (0, 1), 0), (1, 2))
        self.assertEqual(after(LARGE, ALL_EIGHT, 4), ALL_EIGHT)

    def test_it_is_a_tuple(self):
        self.assertIsInstance(after(FOUR, (0,), 0), tuple)

    def test_what_is_no_deeds_number(self):
        for deed in NO_NUMBERS + [-1, 2, 3, -2, 10 ** 30, -10 ** 30]:
            with self.subTest(kind=deed.__class__):
                self.assertRaises(BadDeed, after, TWO, (0,), deed)
        for deed in (-1, 4, 5):
            self.assertRaises(BadDeed, after, FOUR, (1,), deed)

    def test_true_and_false_are_no_deeds(self):
        self.assertEqual(after(FOUR, (1,), 0), (3,))
        self.assertEqual(after(FOUR, (1,), 1), (3,))
        self.assertRaises(BadDeed, after, FOUR, (1,), False)
        self.assertRaises(BadDeed, after, FOUR, (1,), True)

    def test_what_can_not_be_done(self):
        for crowd, deed in (((0,), 1), ((3,), 0), ((3,), 1), ((0, 1), 1), ((1, 3), 0), ((1, 2, 3), 1)):
            with self.subTest(crowd=crowd, deed=deed):
                self.assertRaises(BadDeed, after, FOUR, crowd, deed)
        for crowd in crowds_of(4):
            self.assertRaises(BadDeed, after, FOUR, crowd, 3)

    def test_just_the_doable_deeds_lead_somewhere(self):
        for crowd in crowds_of(4):
            for deed in range(4):
                if deed in doable(FOUR, crowd):
                    told = after(FOUR, crowd, deed)
                    for state in range(4):
                        self.assertEqual(state in told, any(state in FOUR[1][deed][origin] for origin in crowd))
                else:
                    self.assertRaises(BadDeed, after, FOUR, crowd, deed)


class TestParts(unittest.TestCase):
    def test_with_no_look(self):
        self.assertEqual(parts(FOUR, (), (0, 1, 2, 3)), [((), (0, 1, 2, 3))])
        self.assertEqual(parts(FOUR, (), (2,)), [((), (2,))])
        self.assertEqual(parts(ONE, (), (0,)), [((), (0,))])

    def test_with_one_look(self):
        self.assertEqual(parts(FOUR, (0,), (0, 1, 2, 3)), [((0,), (1, 3)), ((1,), (0, 2))])
        self.assertEqual(parts(FOUR, (1,), (0, 1, 2, 3)), [((2,), (2, 3)), ((9,), (0, 1))])
        self.assertEqual(parts(FOUR, (0,), (0, 2)), [((1,), (0, 2))])
        self.assertEqual(parts(FOUR, (2,), (0, 1, 3)), [((5,), (0, 1, 3))])

    def test_with_several_looks(self):
        self.assertEqual(
            parts(FOUR, (0, 1), (0, 1, 2, 3)), [((0, 2), (3,)), ((0, 9), (1,)), ((1, 2), (2,)), ((1, 9), (0,))])
        self.assertEqual(parts(FOUR, (1, 2), (0, 1, 3)), [((2, 5), (3,)), ((9, 5), (0, 1))])
        self.assertEqual(parts(FOUR, (0, 1, 2), (0, 1)), [((0, 9, 5), (1,)), ((1, 9, 5), (0,))])

    def test_with_all_looks(self):
        self.assertEqual(
            parts(LARGE, all_looks(LARGE), ALL_EIGHT), [((state,) * 4, (state,)) for state in range(8)])

    def test_parts_rise_by_what_is_seen_not_by_states(self):
        falling = (4, (((), (), (), ()),), ((9, 5, 5, 0),), (0,), ())
        self.assertEqual(parts(falling, (0,), (0, 1, 2, 3)), [((0,), (3,)), ((5,), (1, 2)), ((9,), (0,))])

    def test_every_state_is_in_the_part_of_what_is_seen_there(self):
        for crowd in crowds_of(4):
            for looks in crowds_of(3, least=0):
                told = parts(FOUR, looks, crowd)
                seen = [row[0] for row in told]
                self.assertEqual(seen, sorted(set(seen)))
                self.assertEqual(sorted(state for row in told for state in row[1]), list(crowd))
                for what, part in told:
                    self.assertEqual(part, tuple(sorted(part)))
                    for state in part:
                        self.assertEqual(what, tuple(FOUR[2][look][state] for look in looks))

    def test_kinds(self):
        told = parts(FOUR, (0,), (0, 1))
        self.assertIsInstance(told, list)
        for row in told:
            self.assertEqual([thing.__class__ for thing in (row,) + row], [tuple, tuple, tuple])

    def test_a_told_list_is_a_new_one(self):
        told = parts(FOUR, (0,), (0, 1))
        told.clear()
        self.assertEqual(parts(FOUR, (0,), (0, 1)), [((0,), (1,)), ((1,), (0,))])

    def test_what_is_no_choice_of_looks(self):
        for looks in NO_CHOICES_OF_TWO:
            with self.subTest(kind=looks.__class__):
                self.assertRaises(BadLooks, parts, TWO, looks, (0,))
        for looks in ((0,), (-1,), [], None, (False,)):
            self.assertRaises(BadLooks, parts, ONE, looks, (0,))
        for looks in ((3,), (0, 3), (2, 1), (1, 1), (0, 1, 2, 3), (True,), (0, True), (False, 1)):
            self.assertRaises(BadLooks, parts, FOUR, looks, (0,))
        self.assertRaises(BadLooks, parts, LARGE, (0, 1, 2, 3, 4), (0,))


class TestBadCrowd(unittest.TestCase):
    def refused(self, works, crowd):
        with self.subTest(kind=crowd.__class__):
            self.assertRaises(BadCrowd, doable, works, crowd)
            self.assertRaises(BadCrowd, after, works, crowd, 0)
            self.assertRaises(BadCrowd, parts, works, (), crowd)

    def test_the_empty_crowd(self):
        for works in (FOUR, ONE, TWO, LARGE):
            self.refused(works, ())

    def test_what_is_no_crowd(self):
        for works in (FOUR, ONE, TWO, LARGE):
            for crowd in NO_TUPLES + no_crowds(works[0]):
                self.refused(works, crowd)

    def test_falling_twice_or_beyond(self):
        for crowd in ((1, 0), (0, 2, 1), (0, 0), (1, 2, 2), (4,), (0, 4), (-1,), (-1, 0), (True, 2), (0, True)):
            self.refused(FOUR, crowd)


class TestOrderOfRefusals(unittest.TestCase):
    def test_works_first(self):
        for works in (None, (), FOUR[:4], replaced(FOUR, (3,), ())):
            for crowd in ((0,), (), None, [0], (9,)):
                self.assertRaises(BadWorks, doable, works, crowd)
                for deed in (0, 9, True, None):
                    self.assertRaises(BadWorks, after, works, crowd, deed)
                for looks in ((), (9,), None, [0]):
                    self.assertRaises(BadWorks, parts, works, looks, crowd)

    def test_the_crowd_ahead_of_the_deed(self):
        for crowd in ((), None, [0], (9,), (1, 0)):
            for deed in (0, 3, 9, -1, True, None):
                self.assertRaises(BadCrowd, after, FOUR, crowd, deed)

    def test_looks_ahead_of_the_crowd(self):
        for looks in ((9,), None, [0], (1, 0), (True,)):
            for crowd in ((0,), (), None, [0], (9,)):
                self.assertRaises(BadLooks, parts, FOUR, looks, crowd)


class TestNothingIsChanged(unittest.TestCase):
    def test_what_is_handed_in_stays_as_it_was(self):
        works, looks, crowd = copy.deepcopy(FOUR), (0, 1), (0, 1, 2)
        doable(works, crowd)
        after(works, crowd, 0)
        parts(works, looks, crowd)
        self.assertEqual((works, looks, crowd), (FOUR, (0, 1), (0, 1, 2)))

    def test_wrong_things_that_can_be_changed_stay_as_they_were(self):
        works, looks, crowd, deed = list(FOUR), [1, 0], [2, 1], [0]
        self.assertRaises(BadWorks, doable, works, crowd)
        self.assertRaises(BadCrowd, after, FOUR, crowd, deed)
        self.assertRaises(BadDeed, after, FOUR, (0,), deed)
        self.assertRaises(BadLooks, parts, FOUR, looks, crowd)
        self.assertEqual((works, looks, crowd, deed), (list(FOUR), [1, 0], [2, 1], [0]))

    def test_nothing_is_kept_between_calls(self):
        first = (doable(FOUR, (1,)), after(FOUR, (0,), 0), parts(FOUR, (0,), (0, 1)))
        doable(TWO, (0,))
        after(TWO, (0,), 1)
        parts(TWO, (1,), (0, 1))
        self.assertEqual((doable(FOUR, (1,)), after(FOUR, (0,), 0), parts(FOUR, (0,), (0, 1))), first)


if __name__ == "__main__":
    unittest.main()
