"""Traps: the crowds without a plan, how a foe keeps one in them, and what it answers."""

import copy
import unittest

from halfseen.crowds import after, doable, parts
from halfseen.finding import fewest
from halfseen.traps import foe_answer, held_in, traps, why_none
from tests.reference import (
    behind, choices, deeds_for, many_works, parts_of, slow_answer, slow_coming, slow_fewest, slow_traps)
from tests.samples import ALL_EIGHT, LARGE, ONE, TWO, crowds_of, replaced
from tests.worlds import FOE, FORK, HELD, LINE, MAZE, RING, ROUND, STAY

# From 0 to 1 or 2, both one deed from the goal 3, or to 1 or 3; 2 is seen ahead of 1.
TIE = (
    4,
    (((1, 2), (3,), (3,), ()), ((1, 3), (), (), ()), ((2, 3), (), (), ())),
    ((0, 5, 4, 9),),
    (0,),
    (3,),
)

# Nothing can be done in 0 and 1; 2 leads to each of them and to the goal 3, seen least.
END = (4, (((), (), (0, 1, 3), ()), ((), (), (1, 3), (3,)), ((), (), (0, 1), ())), ((2, 1, 1, 0),), (2, 3), (3,))


class TestTraps(unittest.TestCase):
    def test_worked_out_by_hand(self):
        self.assertEqual(traps(FORK, ()), [(0,), (1, 2), (3, 4)])
        self.assertEqual(traps(FORK, (1,)), [(0,), (1, 2), (3, 4)])
        self.assertEqual(traps(MAZE, ()), [(0, 1), (2, 3)])
        self.assertEqual(traps(MAZE, (1,)), [(0, 1), (2, 3)])
        self.assertEqual(traps(HELD, (0,)), [(0,), (1,), (2,)])
        self.assertEqual(traps(HELD, ()), [(0, 1, 2, 3)])
        self.assertEqual(traps(ROUND, (0,)), [(0,), (1,)])
        self.assertEqual(traps(ROUND, ()), [(0, 1)])
        self.assertEqual(traps(ONE, ()), [(0,)])

    def test_there_may_be_traps_where_there_is_a_plan(self):
        self.assertEqual(fewest(FORK, (0,)), 2)
        self.assertEqual(traps(FORK, (0,)), [(4,)])
        self.assertEqual(traps(FORK, (0, 1)), [(4,)])

    def test_only_crowds_that_come(self):
        self.assertEqual(traps(FOE, (0,)), [])
        self.assertEqual(traps(replaced(FOE, (3,), (4,)), (0,)), [(4,), (6,)])
        self.assertEqual(traps(replaced(FOE, (3,), (0,)), (0,)), [(4,), (6,)])
        self.assertEqual(traps(replaced(FOE, (3,), (2,)), (0,)), [(4,), (6,)])
        self.assertEqual(traps(replaced(FORK, (3,), (3,)), (0,)), [])
        self.assertEqual(traps(replaced(FORK, (3,), (4,)), (0,)), [(4,)])
        self.assertEqual(traps(replaced(HELD, (3,), (1, 3)), (0,)), [(0,), (1,)])

    def test_a_goal_does_not_end_what_comes(self):
        # One could go on from the goal, and so the crowds behind it come, too.
        works = (3, (((1,), (2,), ()),), (), (0,), (1,))
        self.assertEqual(fewest(works, ()), 1)
        self.assertEqual(traps(works, ()), [(2,)])

    def test_empty_where_all_that_come_have_a_plan(self):
        for works in (LARGE, LINE, RING, STAY):
            for looks in choices(works):
                told = traps(works, looks)
                self.assertEqual(told, [])
                self.assertIsInstance(told, list)

    def test_rising(self):
        # All of these come one after another, and not in this order.
        works = replaced(replaced(FORK, (3,), (0, 1, 2, 3, 4)), (4,), ())
        self.assertEqual(traps(works, (0,)), [(0, 1, 3, 4), (2,), (3,), (4,)])
        works = (3, (((1,), (0, 2), (0,)), ((1,), (2,), (1,))), (), (1,), ())
        self.assertEqual(traps(works, ()), [(0,), (0, 1), (0, 1, 2), (0, 2), (1,), (1, 2), (2,)])

    def test_no_goal_makes_a_trap_of_each_crowd_that_comes(self):
        for works in (FORK, MAZE, LINE, FOE, HELD, STAY):
            nowhere = replaced(works, (4,), ())
            for looks in choices(works):
                self.assertEqual(traps(nowhere, looks), slow_coming(nowhere, looks))

    def test_against_a_slower_way(self):
        with_and_without = 0
        for works, looks in many_works(11, 300):
            told = traps(works, looks)
            self.assertEqual(told, slow_traps(works, looks), (works, looks))
            with_and_without += 0 < len(told) < len(slow_coming(works, looks))
        self.assertGreater(with_and_without, 50)


class TestWhyNone(unittest.TestCase):
    def test_none_where_there_is_a_plan(self):
        for works, looks in ((FORK, (0,)), (FORK, (0, 1)), (MAZE, (0,)), (FOE, ()), (RING, ()), (LARGE, (0,)), (STAY, ())):
            self.assertIsNone(why_none(works, looks))

    def test_the_part_of_begin_and_all_traps(self):
        self.assertEqual(why_none(FORK, ()), ((0,), [(0,), (1, 2), (3, 4)]))
        self.assertEqual(why_none(MAZE, ()), ((0, 1), [(0, 1), (2, 3)]))
        self.assertEqual(why_none(HELD, ()), ((0, 1, 2, 3), [(0, 1, 2, 3)]))
        self.assertEqual(why_none(ONE, ()), ((0,), [(0,)]))

    def test_the_part_that_is_seen_least_and_is_a_trap(self):
        # 3 is seen least and is there; then come 1, 2 and 0.
        self.assertEqual(why_none(HELD, (0,)), ((1,), [(0,), (1,), (2,)]))
        self.assertEqual(why_none(replaced(HELD, (3,), (0, 2, 3)), (0,)), ((2,), [(0,), (1,), (2,)]))
        self.assertEqual(why_none(replaced(HELD, (3,), (0, 3)), (0,)), ((0,), [(0,), (1,)]))
        self.assertEqual(why_none(ROUND, (0,)), ((0,), [(0,), (1,)]))

    def test_kinds(self):
        told = why_none(FORK, ())
        self.assertEqual([told.__class__, told[0].__class__, told[1].__class__], [tuple, tuple, list])

    def test_against_a_slower_way(self):
        for works, looks in many_works(12, 300):
            without = [part for seen, part in parts_of(works, looks, works[3]) if slow_fewest(works, looks, part) is None]
            expected = (without[0], slow_traps(works, looks)) if without else None
            self.assertEqual(why_none(works, looks), expected, (works, looks))
            self.assertEqual(why_none(works, looks) is None, fewest(works, looks) is not None)


class TestHeldIn(unittest.TestCase):
    def test_worked_out_by_hand(self):
        self.assertEqual(held_in(FORK, ()), [
            ((0,), [(0, (1, 2))]),
            ((1, 2), [(1, (3, 4)), (2, (3, 4))]),
            ((3, 4), []),
        ])
        self.assertEqual(held_in(MAZE, ()), [((0, 1), [(0, (2, 3))]), ((2, 3), [])])
        self.assertEqual(held_in(ROUND, ()), [((0, 1), [(0, (0, 1)), (1, (0, 1))])])
        self.assertEqual(held_in(ONE, ()), [((0,), [(0, (0,))])])

    def test_the_trap_that_is_seen_least(self):
        self.assertEqual(held_in(HELD, (0,)), [
            ((0,), [(0, (1,)), (1, (1,))]),
            ((1,), [(0, (0,))]),
            ((2,), [(0, (2,)), (1, (0,))]),
        ])
        self.assertEqual(held_in(END, (0,)), [
            ((0,), []),
            ((1,), []),
            ((2,), [(0, (1,)), (1, (1,)), (2, (1,))]),
        ])

    def test_a_trap_with_which_no_deed_can_be_done(self):
        self.assertEqual(held_in(FORK, (0,)), [((4,), [])])

    def test_no_trap(self):
        for works in (LARGE, LINE, RING, STAY):
            for looks in choices(works):
                self.assertEqual(held_in(works, looks), [])

    def test_kinds(self):
        told = held_in(FORK, ())
        self.assertIsInstance(told, list)
        for row in told:
            self.assertEqual([row.__class__, row[0].__class__, row[1].__class__], [tuple, tuple, list])
            for answer in row[1]:
                self.assertEqual([answer.__class__, answer[1].__class__], [tuple, tuple])

    def test_a_foe_keeps_one_there(self):
        for works, looks in many_works(13, 300):
            told = held_in(works, looks)
            all_traps = slow_traps(works, looks)
            self.assertEqual([row[0] for row in told], all_traps)
            for trap, answers in told:
                self.assertFalse(set(trap) <= set(works[4]))
                self.assertEqual([deed for deed, answer in answers], deeds_for(works, trap))
                for deed, answer in answers:
                    held = [part for seen, part in parts_of(works, looks, behind(works, trap, deed)) if part in all_traps]
                    self.assertEqual(answer, held[0])


class TestFoeAnswer(unittest.TestCase):
    def test_a_part_without_a_plan(self):
        self.assertEqual(foe_answer(FOE, (0,), (0,), 3), (5,))
        self.assertEqual(foe_answer(HELD, (0,), (2,), 0), (4,))
        self.assertEqual(foe_answer(HELD, (0,), (2,), 1), (5,))

    def test_of_several_without_a_plan_the_one_seen_least(self):
        self.assertEqual(foe_answer(FOE, (0,), (0,), 2), (3,))
        self.assertEqual(foe_answer(HELD, (0,), (0,), 1), (3,))
        self.assertEqual(foe_answer(END, (0,), (2,), 0), (1,))

    def test_the_part_that_needs_most_deeds(self):
        self.assertEqual(foe_answer(FOE, (0,), (0,), 1), (8,))
        self.assertEqual(foe_answer(FOE, (0,), (2,), 1), (7,))
        self.assertEqual(foe_answer(FOE, (0,), (1,), 3), (8,))
        self.assertEqual(foe_answer(FOE, (0,), (3,), 3), (6,))
        self.assertEqual(foe_answer(TIE, (0,), (0,), 1), (5,))
        self.assertEqual(foe_answer(TIE, (0,), (0,), 2), (4,))
        # In a crowd without a look, all of its states count.
        self.assertEqual(foe_answer(FOE, (1,), (0,), 1), (0,))
        self.assertEqual(foe_answer(FOE, (1,), (2,), 1), (0,))

    def test_of_several_that_need_most_the_one_seen_least(self):
        self.assertEqual(foe_answer(TIE, (0,), (0,), 0), (4,))
        self.assertEqual(foe_answer(LARGE, (0, 1), (0,), 0), (0, 0))
        falling = replaced(LARGE, (2, 0), ALL_EIGHT[::-1])
        self.assertEqual(foe_answer(falling, (0, 1), (3,), 4), (0, 7))

    def test_one_part_alone(self):
        self.assertEqual(foe_answer(FOE, (0,), (0,), 0), (8,))
        self.assertEqual(foe_answer(FOE, (0,), (4,), 0), (3,))
        self.assertEqual(foe_answer(FOE, (), (0,), 2), ())
        self.assertEqual(foe_answer(FOE, (0, 1), (3,), 0), (4, 0))
        self.assertEqual(foe_answer(ONE, (), (0,), 0), ())

    def test_a_crowd_that_never_comes_from_begin(self):
        self.assertEqual(slow_coming(FOE, (0,)), [(5,)])
        self.assertEqual(foe_answer(FOE, (0,), (2,), 0), (6,))
        self.assertEqual(foe_answer(FOE, (0,), (6,), 2), (5,))
        self.assertEqual(foe_answer(replaced(MAZE, (3,), (4,)), (0,), (0, 1), 0), (0,))

    def test_a_crowd_whose_states_are_seen_differently(self):
        self.assertEqual(foe_answer(FOE, (0,), (1, 2), 0), (7,))
        self.assertEqual(foe_answer(FOE, (0,), (0, 2), 1), (8,))
        self.assertEqual(foe_answer(FOE, (0,), (2, 4), 0), (3,))
        self.assertEqual(foe_answer(FOE, (0,), (0, 3, 4, 6), 2), (3,))

    def test_begin_does_not_matter(self):
        for begin in crowds_of(7):
            if len(begin) < 3:
                self.assertEqual(foe_answer(replaced(FOE, (3,), begin), (0,), (0,), 1), (8,))

    def test_against_a_slower_way(self):
        for works, looks in many_works(14, 100):
            for crowd in crowds_of(works[0]):
                for deed in doable(works, crowd):
                    told = foe_answer(works, looks, crowd, deed)
                    self.assertEqual(told, slow_answer(works, looks, crowd, deed), (works, looks, crowd, deed))
                    self.assertIn(told, [row[0] for row in parts(works, looks, after(works, crowd, deed))])

    def test_the_greatest_size(self):
        for looks in choices(RING):
            for deed in doable(RING, ALL_EIGHT):
                self.assertEqual(len(foe_answer(RING, looks, ALL_EIGHT, deed)), len(looks))
        # Seen whole, the state that is farthest from the goal behind the ring's turn is 1.
        self.assertEqual(foe_answer(RING, (0, 1, 2), ALL_EIGHT, 1), (0, 0, 1))


class TestNothingIsChanged(unittest.TestCase):
    def test_told_lists_are_new_ones(self):
        for clear in range(2):
            told = traps(FORK, ())
            self.assertEqual(told, [(0,), (1, 2), (3, 4)])
            told.clear()
        for clear in range(2):
            told = why_none(FORK, ())
            self.assertEqual(told, ((0,), [(0,), (1, 2), (3, 4)]))
            told[1].clear()
        for clear in range(2):
            told = held_in(FORK, ())
            self.assertEqual(told, [((0,), [(0, (1, 2))]), ((1, 2), [(1, (3, 4)), (2, (3, 4))]), ((3, 4), [])])
            for row in told:
                row[1].clear()
            told.clear()

    def test_lists_within_one_answer_are_not_the_same(self):
        first, second = [row[1] for row in held_in(END, (0,))][:2]
        first.append(1)
        self.assertEqual(second, [])

    def test_what_is_handed_in_stays_as_it_was(self):
        works, looks, crowd = copy.deepcopy(FOE), (0, 1), (0, 2)
        traps(works, looks)
        why_none(works, looks)
        held_in(works, looks)
        foe_answer(works, looks, crowd, 1)
        self.assertEqual((works, looks, crowd), (FOE, (0, 1), (0, 2)))

    def test_nothing_is_kept_between_calls(self):
        first = (traps(HELD, (0,)), why_none(HELD, (0,)), held_in(HELD, (0,)), foe_answer(FOE, (0,), (0,), 1))
        for works in (TWO, FORK, ROUND, replaced(HELD, (4,), ())):
            for looks in choices(works):
                traps(works, looks)
                why_none(works, looks)
                held_in(works, looks)
                foe_answer(works, looks, (0,), 0)
        self.assertEqual(
            (traps(HELD, (0,)), why_none(HELD, (0,)), held_in(HELD, (0,)), foe_answer(FOE, (0,), (0,), 1)), first)


if __name__ == "__main__":
    unittest.main()
