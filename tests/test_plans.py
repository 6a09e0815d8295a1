"""Plans that are handed in: their deeds, their runs, and the refusal of what are none."""

import copy
import random
import unittest

from halfseen.errors import BadPlan, BadRun
from halfseen.finding import a_plan, fewest
from halfseen.plans import deeds_in, deepest, excess, run
from tests.reference import (
    choices, deeds_at_worst, deeds_within, many_works, slow_run, some_plan, where_it_fails)
from tests.samples import ALL_EIGHT, LARGE, NO_NUMBERS, NO_TUPLES, ONE, Strange, at_path, paths, replaced
from tests.worlds import (
    DONE, FORK, FORK_PLAN, LINE, LINE_PLAN, MAZE, MAZE_END, MAZE_FORK, MAZE_LONG, MAZE_PLAN, MAZE_ROUND, RING, ROUND,
    STAY, STAY_LAST, stay_plan)

ALL_FOUR = [
    ("deepest", deepest),
    ("excess", excess),
    ("deeds_in", deeds_in),
    ("run", lambda works, looks, plan: run(works, looks, plan, works[3][0], [])),
]

# Things of every kind that are no word, no number and no tuple, and some that nearly are.
NO_WORDS = [None, True, False, 0, 1, "", "Do", "DONE", "do ", "dont", b"do", b"done", 0.5, (), ("do",), ["done"], {},
            set(), str, Strange(), Strange]


class PlanTest(unittest.TestCase):
    def refused(self, works, looks, plan, at):
        for name, asked in ALL_FOUR:
            with self.subTest(name=name, at=at):
                with self.assertRaises(BadPlan) as caught:
                    asked(works, looks, plan)
                self.assertEqual(caught.exception.at, at)
                self.assertIsInstance(caught.exception.at, tuple)

    def refused_as_told(self, works, looks, plan):
        at = where_it_fails(works, looks, works[3], plan)
        self.assertIsNotNone(at)
        self.refused(works, looks, plan, at)


class TestDeepest(unittest.TestCase):
    def test_plans_that_are_found(self):
        for works, looks in many_works(3, 300) + [(RING, looks) for looks in choices(RING)]:
            plan = a_plan(works, looks)
            if plan is not None:
                self.assertEqual(deepest(works, looks, plan), fewest(works, looks))
                self.assertEqual(excess(works, looks, plan), 0)

    def test_where_one_is_there_at_once(self):
        for looks in choices(LARGE):
            plan = a_plan(LARGE, looks)
            self.assertEqual((deepest(LARGE, looks, plan), excess(LARGE, looks, plan)), (0, 0))
        self.assertEqual(deepest((1, (((),),), (), (0,), (0,)), (), (((), DONE),)), 0)

    def test_parts_of_different_depths(self):
        self.assertEqual(deepest(LINE, (0,), LINE_PLAN), 3)
        self.assertEqual(deepest(replaced(LINE, (3,), (2, 3)), (0,), LINE_PLAN[1:]), 1)
        self.assertEqual(deepest(replaced(LINE, (3,), (3,)), (0,), LINE_PLAN[2:]), 0)
        self.assertEqual(excess(LINE, (0,), LINE_PLAN), 0)

    def test_the_deepest_part_may_be_any(self):
        for deep in range(3):
            rows = []
            for number, last in enumerate((3, 2, 3)):
                begin = (((3,), DONE),)
                for turn in range(last if number == deep else 1):
                    begin = (((3,), ("do", 0, begin)),)
                rows.append(begin)
            works = (4, (((3,), (3,), (3,), (3,)),), ((0, 1, 2, 3),), (0, 1, 2), (3,))
            plan = tuple(((number,), ("do", 0, inner)) for number, inner in enumerate(rows))
            self.assertEqual(deepest(works, (0,), plan), (4, 3, 4)[deep])
            self.assertEqual(excess(works, (0,), plan), (3, 2, 3)[deep])

    def test_plans_with_more_deeds_than_they_need(self):
        self.assertEqual(deepest(MAZE, (0,), MAZE_PLAN), 2)
        self.assertEqual(deepest(MAZE, (0,), MAZE_LONG), 5)
        self.assertEqual(excess(MAZE, (0,), MAZE_PLAN), 0)
        self.assertEqual(excess(MAZE, (0,), MAZE_LONG), 3)
        for turns in range(5):
            plan = stay_plan(turns, STAY_LAST)
            self.assertEqual(deepest(STAY, (0,), plan), turns + 1)
            self.assertEqual(excess(STAY, (0,), plan), turns)

    def test_a_goal_may_be_left_and_come_to_again(self):
        there = replaced(MAZE, (3,), (4,))
        self.assertEqual(deepest(there, (0,), MAZE_ROUND), 3)
        self.assertEqual(excess(there, (0,), MAZE_ROUND), 3)
        self.assertEqual(excess(there, (0,), MAZE_END), 0)

    def test_plans_by_chance(self):
        source = random.Random(4)
        above = 0
        for works, looks in many_works(5, 400):
            plan = some_plan(source, works, looks, works[3], 4)
            if plan is not None:
                self.assertIsNone(where_it_fails(works, looks, works[3], plan))
                most = deeds_at_worst(plan)
                self.assertEqual(deepest(works, looks, plan), most)
                self.assertEqual(excess(works, looks, plan), most - fewest(works, looks))
                self.assertEqual(deeds_in(works, looks, plan), sorted(deeds_within(plan)))
                above += most > fewest(works, looks)
        self.assertGreater(above, 50)


class TestDeedsIn(unittest.TestCase):
    def test_rising_and_none_twice(self):
        self.assertEqual(deeds_in(FORK, (0,), FORK_PLAN), [0, 1, 2])
        self.assertEqual(deeds_in(LINE, (0,), LINE_PLAN), [0])
        self.assertEqual(deeds_in(MAZE, (0,), MAZE_PLAN), [0, 1])
        self.assertEqual(deeds_in(MAZE, (0,), MAZE_LONG), [0, 1])
        self.assertEqual(deeds_in(STAY, (0,), stay_plan(0, STAY_LAST)), [1])
        self.assertEqual(deeds_in(STAY, (0,), stay_plan(2, STAY_LAST)), [0, 1])

    def test_rising_though_the_greater_deed_comes_first(self):
        works = (3, (((), (2,), ()), ((1,), (), ())), (), (0,), (2,))
        self.assertEqual(deeds_in(works, (), (((), ("do", 1, (((), ("do", 0, (((), DONE),))),))),)), [0, 1])

    def test_empty_where_all_of_begin_is_there(self):
        for looks in choices(LARGE):
            told = deeds_in(LARGE, looks, a_plan(LARGE, looks))
            self.assertEqual(told, [])
            self.assertIsInstance(told, list)

    def test_a_told_list_is_a_new_one(self):
        for clear in range(2):
            told = deeds_in(FORK, (0,), FORK_PLAN)
            self.assertEqual(told, [0, 1, 2])
            told.clear()


class TestBadPlan(PlanTest):
    def test_the_plans_by_hand_are_plans(self):
        for works, plan in ((FORK, FORK_PLAN), (LINE, LINE_PLAN), (MAZE, MAZE_PLAN), (MAZE, MAZE_LONG)):
            for name, asked in ALL_FOUR:
                asked(works, (0,), plan)

    def test_none_where_there_is_no_plan(self):
        for works, looks in ((FORK, ()), (FORK, (1,)), (ROUND, (0,)), (MAZE, ()), (ONE, ())):
            self.assertIsNone(a_plan(works, looks))
            self.refused(works, looks, None, ())

    def test_no_tuple_at_the_top(self):
        for thing in NO_TUPLES + [list(MAZE_PLAN), dict(MAZE_PLAN), set(MAZE_PLAN)]:
            self.refused(MAZE, (0,), thing, ())

    def test_a_row_too_few_or_too_many(self):
        self.refused(MAZE, (0,), (), ())
        self.refused(MAZE, (0,), MAZE_PLAN[:1], ())
        self.refused(MAZE, (0,), MAZE_PLAN[1:], ())
        self.refused(MAZE, (0,), MAZE_PLAN + MAZE_PLAN[1:], ())
        self.refused(MAZE, (0,), MAZE_PLAN + (((2,), DONE),), ())
        self.refused(MAZE, (0,), MAZE_PLAN + (None,), ())
        self.refused(FORK, (0,), FORK_PLAN + FORK_PLAN, ())

    def test_a_row_too_many_is_told_ahead_of_what_is_in_the_rows(self):
        self.refused(MAZE, (0,), (((0,), DONE),) + MAZE_PLAN, ())
        self.refused(MAZE, (0,), (((0,), DONE),), ())
        inner = (((0,), DONE), ((1,), DONE), ((1,), DONE))
        self.refused(MAZE, (0,), (((0,), ("do", 0, inner)), MAZE_PLAN[1]), ((0,),))

    def test_rows_twice_or_exchanged(self):
        self.refused(MAZE, (0,), (MAZE_PLAN[0], MAZE_PLAN[0]), ())
        self.refused(MAZE, (0,), (MAZE_PLAN[1], MAZE_PLAN[1]), ())
        self.refused(MAZE, (0,), (MAZE_PLAN[1], MAZE_PLAN[0]), ())
        self.refused(LINE, (0,), (LINE_PLAN[0], LINE_PLAN[2], LINE_PLAN[1]), ())
        exchanged = (MAZE_FORK[1], MAZE_FORK[0])
        self.refused(MAZE, (0,), (((0,), ("do", 0, exchanged)), MAZE_PLAN[1]), ((0,),))
        self.refused(MAZE, (0,), (MAZE_PLAN[0], ((1,), ("do", 1, exchanged))), ((1,),))

    def test_a_row_that_is_no_tuple_of_two(self):
        first, second = MAZE_PLAN
        for row in NO_TUPLES + [(), first[:1], first[1:], first + (DONE,), list(first), (first,)]:
            self.refused(MAZE, (0,), (row, second), ())
            self.refused(MAZE, (0,), (first, row), ())
            inner = (MAZE_FORK[0], row)
            self.refused(MAZE, (0,), (first, ((1,), ("do", 1, inner))), ((1,),))

    def test_another_sight(self):
        for seen in NO_TUPLES + [(), (1,), (2,), (-1,), (0, 0), (None,), ("0",), (0.0,), (False,), ((0,),), (Strange(),)]:
            self.refused(MAZE, (0,), ((seen, MAZE_PLAN[0][1]), MAZE_PLAN[1]), ())
        for seen in ((True,), (1.0,), (1, 1), (0,), [1], 1, None):
            self.refused(MAZE, (0,), (MAZE_PLAN[0], (seen, MAZE_PLAN[1][1])), ())
            inner = (MAZE_FORK[0], (seen, MAZE_FORK[1][1]))
            self.refused(MAZE, (0,), (((0,), ("do", 0, inner)), MAZE_PLAN[1]), ((0,),))
        there = replaced(LINE, (3,), (3,))
        self.refused(there, (), (((3,), DONE),), ())
        self.refused(there, (), ((None, DONE),), ())
        self.refused(there, (0, 1), (((3,), DONE),), ())
        self.refused(there, (0, 1), (((1, 3), DONE),), ())
        self.refused(there, (0, 1), (((3, True), DONE),), ())

    def test_a_step_of_another_kind(self):
        steps = NO_TUPLES + [
            (), ("do",), ("do", 0), ("do", 0, MAZE_FORK, None), ("done", 0), ("done", 0, MAZE_FORK), ("done", None, None),
            ("look", 0, ()), ("Do", 0, MAZE_FORK), (0, "do", MAZE_FORK), (0,), (None,), (("done",),), ["do", 0, MAZE_FORK],
            "done", "do", [], ["done"], {"done": 0}, ("done", "done"), ("do", "do")]
        steps += [(word, 0, MAZE_FORK) for word in NO_WORDS] + [(word,) for word in NO_WORDS]
        for step in steps:
            self.refused(MAZE, (0,), (((0,), step), MAZE_PLAN[1]), ())
            self.refused(MAZE, (0,), (MAZE_PLAN[0], ((1,), step)), ())
            inner = (((0,), ("do", 0, (((0,), step),))), MAZE_FORK[1])
            self.refused(MAZE, (0,), (((0,), ("do", 0, inner)), MAZE_PLAN[1]), ((0,), (0,)))

    def test_done_where_one_is_not_there(self):
        self.refused(MAZE, (0,), (((0,), DONE), MAZE_PLAN[1]), ((0,),))
        self.refused(MAZE, (0,), (MAZE_PLAN[0], ((1,), DONE)), ((1,),))
        self.refused(MAZE, (0,), (((0,), ("do", 0, (MAZE_FORK[0], ((1,), DONE)))), MAZE_PLAN[1]), ((0,), (1,)))
        # Without a look, one state of the crowd is in the goal, and one is not.
        self.refused(LINE, (), (((), DONE),), ((),))
        self.refused(LINE, (), (((), ("do", 0, (((), DONE),))),), ((), ()))
        self.refused(LINE, (1,), (((0,), ("do", 0, (((0,), DONE), ((1,), DONE)))), ((1,), DONE)), ((0,), (0,)))
        self.refused(ONE, (), (((), DONE),), ((),))

    def test_what_is_no_deed(self):
        for deed in NO_NUMBERS + [-1, 2, 3, 10 ** 30, -10 ** 30]:
            self.refused(MAZE, (0,), (((0,), ("do", deed, MAZE_FORK)), MAZE_PLAN[1]), ((0,),))
            self.refused(MAZE, (0,), (MAZE_PLAN[0], ((1,), ("do", deed, MAZE_FORK))), ((1,),))
            inner = (((1,), ("do", deed, MAZE_END)),)
            self.refused(MAZE, (0,), (MAZE_PLAN[0], ((1,), ("do", 0, inner))), ((1,), (1,)))

    def test_a_deed_that_can_not_be_done(self):
        self.refused(MAZE, (0,), (((0,), ("do", 1, MAZE_FORK)), MAZE_PLAN[1]), ((0,),))
        self.refused(MAZE, (0,), (MAZE_PLAN[0], ((1,), ("do", 0, (((1,), ("do", 0, MAZE_END)),)))), ((1,), (1,)))
        # It can be done in one state of the crowd, but not in the other.
        self.refused(MAZE, (), (((), ("do", 1, (((), DONE),))),), ((),))
        self.refused(MAZE, (), (((), ("do", 0, (((), ("do", 1, (((), DONE),))),))),), ((), ()))
        self.refused(ONE, (), (((), ("do", 1, (((), DONE),))),), ((),))

    def test_what_follows_a_deed_is_no_plan(self):
        for thing in NO_TUPLES + [(), list(MAZE_FORK), MAZE_FORK[:1], MAZE_FORK * 2, MAZE_END, DONE]:
            self.refused(MAZE, (0,), (((0,), ("do", 0, thing)), MAZE_PLAN[1]), ((0,),))
            self.refused(MAZE, (0,), (MAZE_PLAN[0], ((1,), ("do", 1, thing))), ((1,),))
        for thing in NO_TUPLES + [(), MAZE_END * 2, MAZE_FORK]:
            inner = (MAZE_FORK[0], ((1,), ("do", 1, thing)))
            self.refused(MAZE, (0,), (((0,), ("do", 0, inner)), MAZE_PLAN[1]), ((0,), (1,)))

    def test_a_wrong_deed_is_told_ahead_of_what_follows_it(self):
        self.refused(MAZE, (0,), (((0,), ("do", 9, None)), MAZE_PLAN[1]), ((0,),))
        self.refused(MAZE, (0,), (((0,), ("do", None, (((0,), DONE), ((1,), DONE)))), MAZE_PLAN[1]), ((0,),))

    def test_a_plan_that_fails_deep_within(self):
        for turns in range(6):
            self.refused(STAY, (0,), stay_plan(turns, DONE), ((0,),) * (turns + 1))
            self.refused(STAY, (0,), stay_plan(turns, ("do", 1, None)), ((0,),) * (turns + 1))
            self.refused(STAY, (0,), stay_plan(turns, ("do",)), ((0,),) * turns)
            self.refused(STAY, (0,), stay_plan(turns, ("do", 1, (((1,), ("do", 0, ())),))), ((0,),) * (turns + 1) + ((1,),))
        round_wrong = (((0,), ("do", 0, (MAZE_ROUND[0][1][2][0], ((1,), ("do", 0, (((1,), DONE),)))))),)
        plan = replaced(MAZE_LONG, (0, 1, 2, 0, 1, 2), round_wrong)
        self.refused(MAZE, (0,), plan, ((0,), (0,), (0,), (1,), (1,)))

    def test_of_two_places_the_first_one_that_is_gone_through(self):
        # Deep within the first row, ahead of the form of the second.
        wrong_first = ((0,), ("do", 0, (MAZE_FORK[0], ((1,), ("do", 1, ())))))
        for second in (None, (), ((0,), DONE), ((1,), DONE), ((1,), None), ((1,), ("do", 9, None))):
            self.refused(MAZE, (0,), (wrong_first, second), ((0,), (1,)))
        # The form of the first row, ahead of all in the second.
        for second in (None, ((1,), DONE), ((1,), ("do", 0, None))):
            self.refused(MAZE, (0,), (((0,), None), second), ())
            self.refused(MAZE, (0,), (((0,), DONE), second), ((0,),))
            self.refused(MAZE, (0,), (((0,), ("do", 0, ())), second), ((0,),))
        # The first row is right, so the form of the second one tells, and only then its step.
        self.refused(MAZE, (0,), (MAZE_PLAN[0], ((0,), ("do", 9, None))), ())
        self.refused(MAZE, (0,), (MAZE_PLAN[0], ((1,), ("do", 9, None))), ((1,),))
        inner = (((0,), ("do", 0, (((0,), ("do", 9, ())),))), ((1,), DONE))
        self.refused(MAZE, (0,), (((0,), ("do", 0, inner)), MAZE_PLAN[1]), ((0,), (0,), (0,)))
        self.refused(LINE, (0,), (LINE_PLAN[0], ((2,), DONE), None), ((2,),))
        self.refused(LINE, (0,), (LINE_PLAN[0], None, ((3,), ("do", 9, ()))), ())

    def test_what_was_seen_by_several_looks_or_none(self):
        last = (((0, 4), DONE),)
        right = (((0, 6), ("do", 0, (((0, 5), ("do", 1, last)), ((1, 5), ("do", 2, last))))),)
        self.assertEqual(deepest(FORK, (0, 1), right), 2)
        self.refused(FORK, (0, 1), replaced(right, (0, 1, 2, 1, 1, 1), 0), ((0, 6), (1, 5)))
        self.refused(FORK, (0, 1), replaced(right, (0, 1, 2, 1, 1, 2), ()), ((0, 6), (1, 5)))
        self.refused(FORK, (0, 1), replaced(right, (0, 1, 2, 1, 0), (1, 6)), ((0, 6),))
        self.refused(FORK, (), (((), ("do", 0, (((), ("do", 1, (((), DONE),))),))),), ((), (), ()))

    def test_a_plan_of_other_works_or_looks(self):
        self.refused(MAZE, (), MAZE_PLAN, ())
        self.refused(MAZE, (1,), MAZE_PLAN, ())
        self.refused(MAZE, (0, 1), MAZE_PLAN, ())
        self.refused(FORK, (0,), MAZE_PLAN, ())
        self.refused(MAZE, (0,), FORK_PLAN, ())

    def test_another_kind_at_each_place(self):
        count = 0
        for works, plan in ((MAZE, MAZE_LONG), (FORK, FORK_PLAN), (LINE, LINE_PLAN)):
            for path in paths(plan):
                old = at_path(plan, path)
                if isinstance(old, tuple):
                    others = NO_TUPLES + [list(old), old + (0,), old[1:], old + old]
                    others = [other for other in others if not isinstance(other, tuple) or other != old]
                elif isinstance(old, str):
                    others = NO_WORDS + [{"do": "done", "done": "do"}[old]]
                else:
                    others = NO_NUMBERS + [bool(old), float(old), str(old), old + 5, -old - 1]
                for other in others:
                    self.refused_as_told(works, (0,), replaced(plan, path, other))
                    count += 1
        self.assertGreater(count, 1000)

    def test_parts_of_plans_at_one_anothers_places(self):
        inner = [at_path(MAZE_LONG, path) for path in paths(MAZE_LONG)]
        refused = 0
        for path in paths(MAZE_LONG):
            for thing in inner:
                plan = replaced(MAZE_LONG, path, thing)
                at = where_it_fails(MAZE, (0,), MAZE[3], plan)
                if at is None:
                    self.assertEqual(deepest(MAZE, (0,), plan), deeds_at_worst(plan))
                else:
                    with self.assertRaises(BadPlan) as caught:
                        deepest(MAZE, (0,), plan)
                    self.assertEqual(caught.exception.at, at)
                    refused += 1
        self.assertGreater(refused, 500)


class TestVeryDeepPlans(PlanTest):
    def test_more_deeds_than_a_recursion_could_follow(self):
        plan = stay_plan(20000, STAY_LAST)
        self.assertEqual(deepest(STAY, (0,), plan), 20001)
        self.assertEqual(excess(STAY, (0,), plan), 20000)
        self.assertEqual(deeds_in(STAY, (0,), plan), [0, 1])
        self.assertEqual(run(STAY, (0,), plan, 0, [7]), [0, 0] * 20000 + [0, 1, 1])

    def test_a_fault_at_the_very_end(self):
        self.refused(STAY, (0,), stay_plan(20000, DONE), ((0,),) * 20001)
        self.refused(STAY, (0,), stay_plan(20000, None), ((0,),) * 20000)


class TestRun(unittest.TestCase):
    def test_with_no_picks(self):
        self.assertEqual(run(FORK, (0,), FORK_PLAN, 0, []), [0, 0, 1, 1, 3])
        self.assertEqual(run(LINE, (0,), LINE_PLAN, 0, []), [0, 0, 1, 0, 2, 0, 3])
        self.assertEqual(run(LINE, (0,), LINE_PLAN, 2, []), [2, 0, 3])
        self.assertEqual(run(MAZE, (0,), MAZE_LONG, 0, []), [0, 0, 2, 0, 4, 0, 4])

    def test_where_one_is_there_already(self):
        self.assertEqual(run(LINE, (0,), LINE_PLAN, 3, []), [3])
        self.assertEqual(run(LINE, (0,), LINE_PLAN, 3, [1, 2, 3]), [3])
        for looks in choices(LARGE):
            for state in ALL_EIGHT:
                self.assertEqual(run(LARGE, looks, a_plan(LARGE, looks), state, [5]), [state])

    def test_fewer_picks_than_deeds(self):
        self.assertEqual(run(FORK, (0,), FORK_PLAN, 0, [1]), [0, 0, 2, 2, 3])
        self.assertEqual(run(MAZE, (0,), MAZE_LONG, 0, [1]), [0, 0, 3, 1, 4])
        self.assertEqual(run(MAZE, (0,), MAZE_LONG, 0, [0, 1]), [0, 0, 2, 0, 4, 0, 4])

    def test_as_many_and_more_picks_than_deeds(self):
        self.assertEqual(run(MAZE, (0,), MAZE_LONG, 0, [0, 0, 1]), [0, 0, 2, 0, 4, 0, 5, 0, 5, 1, 4])
        self.assertEqual(run(MAZE, (0,), MAZE_LONG, 0, [0, 0, 1, 0, 0]), [0, 0, 2, 0, 4, 0, 5, 0, 5, 1, 4])
        self.assertEqual(run(MAZE, (0,), MAZE_LONG, 0, [0, 0, 1, 1, 1, 1, 1, 999]), [0, 0, 2, 0, 4, 0, 5, 0, 5, 1, 4])
        self.assertEqual(run(MAZE, (0,), MAZE_LONG, 1, [1, 0, 1]), [1, 1, 3, 1, 4])

    def test_a_deed_that_leads_to_one_state_takes_a_pick_too(self):
        # The second pick is for the deed from 2, which leads to 4 alone; the third one tells.
        self.assertEqual(run(MAZE, (0,), MAZE_LONG, 0, [2, 1, 0]), [0, 0, 2, 0, 4, 0, 4])
        self.assertEqual(run(MAZE, (0,), MAZE_LONG, 0, [2, 0, 1]), [0, 0, 2, 0, 4, 0, 5, 0, 5, 1, 4])

    def test_picks_greater_than_the_number_of_states(self):
        self.assertEqual(run(FORK, (0,), FORK_PLAN, 0, [998]), [0, 0, 1, 1, 3])
        self.assertEqual(run(FORK, (0,), FORK_PLAN, 0, [999]), [0, 0, 2, 2, 3])
        self.assertEqual(run(FORK, (0,), FORK_PLAN, 0, [2]), [0, 0, 1, 1, 3])
        three = (5, (((1, 3, 4), (), (), (), ()),), (), (0,), (1, 3, 4))
        plan = (((), ("do", 0, (((), DONE),))),)
        for pick, target in ((0, 1), (1, 3), (2, 4), (3, 1), (4, 3), (5, 4), (998, 4), (999, 1)):
            self.assertEqual(run(three, (), plan, 0, [pick]), [0, 0, target])

    def test_the_states_are_those_of_the_state_not_of_the_crowd(self):
        works = (4, (((2,), (2, 3), (), ()),), (), (0, 1), (2, 3))
        plan = (((), ("do", 0, (((), DONE),))),)
        self.assertEqual(run(works, (), plan, 0, [1]), [0, 0, 2])
        self.assertEqual(run(works, (), plan, 1, [1]), [1, 0, 3])

    def test_0_and_999_are_let_by(self):
        self.assertEqual(run(MAZE, (0,), MAZE_LONG, 0, [0, 999, 999]), [0, 0, 2, 0, 4, 0, 5, 0, 5, 1, 4])

    def test_a_new_list_each_time(self):
        for clear in range(2):
            told = run(FORK, (0,), FORK_PLAN, 0, [])
            self.assertIsInstance(told, list)
            self.assertEqual(told, [0, 0, 1, 1, 3])
            told.clear()

    def test_by_chance(self):
        source = random.Random(6)
        for works, looks in many_works(7, 300):
            plan = some_plan(source, works, looks, works[3], 4)
            if plan is not None:
                for state in works[3]:
                    picks = [source.randint(0, 999) for pick in range(source.randint(0, 5))]
                    told = run(works, looks, plan, state, picks)
                    self.assertEqual(told, slow_run(works, looks, plan, state, picks))
                    self.assertIn(told[-1], works[4])


class TestBadRun(unittest.TestCase):
    def refused(self, state, picks):
        with self.subTest(state=state.__class__, picks=picks.__class__):
            self.assertRaises(BadRun, run, MAZE, (0,), MAZE_PLAN, state, picks)

    def test_a_state_that_is_none_of_begin(self):
        for state in NO_NUMBERS + [-1, 2, 3, 4, 5, 6, 10 ** 30, -10 ** 30, (0, 1), "01"]:
            self.refused(state, [])
        self.assertRaises(BadRun, run, LINE, (0,), LINE_PLAN, 1, [])
        self.assertRaises(BadRun, run, LINE, (0,), LINE_PLAN, 4, [])

    def test_true_and_false_are_no_states(self):
        self.assertEqual(run(MAZE, (0,), MAZE_PLAN, 1, []), [1, 0, 3, 1, 4])
        self.refused(True, [])
        self.refused(False, [])

    def test_picks_that_are_no_list(self):
        for picks in [None, True, False, 0, 1, "", "12", 0.5, b"1", (), (0,), (1, 2), {}, {0: 1}, set(), {0}, range(3),
                      iter([]), list, len, Strange(), Strange]:
            self.refused(0, picks)

    def test_picks_with_what_is_no_such_number(self):
        for pick in NO_NUMBERS + [-1, 1000, 1001, 10 ** 30, -10 ** 30]:
            self.refused(0, [pick])
            self.refused(0, [0, pick])
            self.refused(0, [pick, 999])
            # Also where it would never be used.
            self.refused(0, [0] * 50 + [pick])

    def test_also_where_one_is_there_already(self):
        self.assertRaises(BadRun, run, LINE, (0,), LINE_PLAN, 3, None)
        self.assertRaises(BadRun, run, LINE, (0,), LINE_PLAN, 3, [1000])


class TestNothingIsChanged(unittest.TestCase):
    def test_what_is_handed_in_stays_as_it_was(self):
        works, looks, plan, picks = copy.deepcopy(MAZE), (0,), copy.deepcopy(MAZE_LONG), [0, 0, 1, 5, 6, 7, 8]
        deepest(works, looks, plan)
        excess(works, looks, plan)
        deeds_in(works, looks, plan)
        run(works, looks, plan, 0, picks)
        self.assertEqual((works, looks, plan, picks), (MAZE, (0,), MAZE_LONG, [0, 0, 1, 5, 6, 7, 8]))

    def test_wrong_things_that_can_be_changed_stay_as_they_were(self):
        plan, picks = [list(row) for row in MAZE_PLAN], [1, 1000]
        for name, asked in ALL_FOUR:
            self.assertRaises(BadPlan, asked, MAZE, (0,), plan)
        self.assertRaises(BadPlan, deepest, MAZE, (0,), (plan[0], MAZE_PLAN[1]))
        self.assertRaises(BadRun, run, MAZE, (0,), MAZE_PLAN, 0, picks)
        self.assertEqual((plan, picks), ([list(row) for row in MAZE_PLAN], [1, 1000]))

    def test_nothing_is_kept_between_calls(self):
        first = (deepest(MAZE, (0,), MAZE_LONG), run(MAZE, (0,), MAZE_LONG, 0, [1]))
        self.assertRaises(BadPlan, deepest, MAZE, (0,), None)
        deepest(FORK, (0,), FORK_PLAN)
        run(MAZE, (0,), MAZE_PLAN, 1, [1])
        self.assertEqual((deepest(MAZE, (0,), MAZE_LONG), run(MAZE, (0,), MAZE_LONG, 0, [1])), first)

    def test_each_refusal_has_an_at_of_its_own(self):
        caught = []
        for plan in (None, (((0,), DONE), MAZE_PLAN[1])):
            try:
                deepest(MAZE, (0,), plan)
            except BadPlan as error:
                caught.append(error)
        self.assertEqual([error.at for error in caught], [(), ((0,),)])


if __name__ == "__main__":
    unittest.main()
