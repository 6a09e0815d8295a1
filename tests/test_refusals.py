"""All files behind crowds: BadWorks, BadLooks, BadCrowd and BadDeed, and the order of all refusals."""

import unittest

from halfseen.errors import BadCrowd, BadDeed, BadLooks, BadNumber, BadPlan, BadPrices, BadRun, BadWorks
from halfseen.finding import a_plan, fewest
from halfseen.merging import alike_states, merged
from halfseen.plans import deeds_in, deepest, excess, run
from halfseen.prices import a_bought_plan, cheapest
from halfseen.sights import needless, weakest, weakest_within, worth_of
from halfseen.strengths import blind_row, by_luck, patient_table, seen_whole, strength
from halfseen.traps import foe_answer, held_in, traps, why_none
from tests.samples import FOUR, LARGE, NO_NUMBERS, NO_TUPLES, ONE, TWO, Strange, no_crowds, no_works, replaced
from tests.worlds import DONE, FORK, MAZE, MAZE_PLAN

WORKS_ALONE = [needless, weakest, blind_row, seen_whole, alike_states, merged]
WITHOUT_PLAN = [fewest, a_plan, traps, why_none, held_in, by_luck, patient_table, strength]
WITH_PLAN = [deepest, excess, deeds_in]
WITH_PRICES = [cheapest, a_bought_plan]

NO_CHOICES_OF_TWO = NO_TUPLES + no_crowds(2) + [(0, 1, 2), (1, 0), (0, 0, 1), (0, 1, 1)]
SOME_NO_WORKS = [None, (), [], list(MAZE), MAZE[:4], MAZE + ((),), replaced(MAZE, (3,), ()), replaced(MAZE, (0,), 5),
                 replaced(MAZE, (1,), ()), replaced(MAZE, (2, 0, 0), True), Strange()]
SOME_NO_LOOKS = [None, [], [0], (2,), (1, 0), (0, 0), (-1,), (False,), (0, True), "0", 0, Strange()]
SOME_NO_PLANS = [None, (), [], MAZE_PLAN[:1], (((0,), DONE), MAZE_PLAN[1]), Strange()]
SOME_NO_CROWDS = [None, (), [0], (9,), (1, 0), (True,), Strange()]
SOME_NO_DEEDS = [None, -1, 2, True, False, (0,), Strange()]
SOME_NO_PRICES = [None, (), ((1, 1),), ((1, 1), (1,)), ((1, 1), (0, 1)), [(1, 1), (1, 1)], ((True, 1), (1, 1)), Strange()]
SOME_NO_MOST = [None, -1, 1000, True, False, 0.0, "0", Strange()]


class TestBadWorks(unittest.TestCase):
    def test_what_are_no_works(self):
        for works in no_works():
            with self.subTest(kind=works.__class__):
                for asked in WITHOUT_PLAN:
                    self.assertRaises(BadWorks, asked, works, ())
                for asked in WITH_PLAN:
                    self.assertRaises(BadWorks, asked, works, (), (((), DONE),))
                self.assertRaises(BadWorks, run, works, (), (((), DONE),), 0, [])
                self.assertRaises(BadWorks, foe_answer, works, (), (0,), 0)
                for asked in WORKS_ALONE:
                    self.assertRaises(BadWorks, asked, works)
                for asked in WITH_PRICES:
                    self.assertRaises(BadWorks, asked, works, ((1, 1), (1, 1)))
                self.assertRaises(BadWorks, weakest_within, works, 0)
                self.assertRaises(BadWorks, worth_of, works, 0)


class TestBadLooks(unittest.TestCase):
    def refused(self, works, looks):
        with self.subTest(kind=looks.__class__):
            for asked in WITHOUT_PLAN:
                self.assertRaises(BadLooks, asked, works, looks)
            for asked in WITH_PLAN:
                self.assertRaises(BadLooks, asked, works, looks, (((), DONE),))
            self.assertRaises(BadLooks, run, works, looks, (((), DONE),), works[3][0], [])
            self.assertRaises(BadLooks, foe_answer, works, looks, (0,), 0)

    def test_what_is_no_choice_of_looks(self):
        for looks in NO_CHOICES_OF_TWO:
            self.refused(TWO, looks)

    def test_looks_that_are_not_there(self):
        for looks in ((0,), (-1,), [], None, (False,)):
            self.refused(ONE, looks)
        for looks in ((3,), (0, 3), (2, 1), (1, 1), (0, 1, 2, 3), (True,), (0, True), (False, 1)):
            self.refused(FOUR, looks)
        for looks in ((4,), (0, 1, 2, 3, 4), (3, 2, 1, 0)):
            self.refused(LARGE, looks)

    def test_edges_that_are_let_by(self):
        for looks in ((), (0,), (3,), (0, 3), (0, 1, 2, 3)):
            for asked in WITHOUT_PLAN:
                asked(LARGE, looks)
            for asked in WITH_PLAN:
                asked(LARGE, looks, a_plan(LARGE, looks))


class TestBadCrowd(unittest.TestCase):
    def test_what_is_no_crowd(self):
        for works in (FOUR, ONE, TWO, LARGE):
            for crowd in NO_TUPLES + no_crowds(works[0]) + [()]:
                with self.subTest(kind=crowd.__class__):
                    self.assertRaises(BadCrowd, foe_answer, works, (), crowd, 0)


class TestBadDeed(unittest.TestCase):
    def test_what_is_no_deed(self):
        for deed in NO_NUMBERS + [-1, 2, 3, 10 ** 30, -10 ** 30]:
            with self.subTest(kind=deed.__class__):
                self.assertRaises(BadDeed, foe_answer, MAZE, (0,), (1,), deed)
        self.assertRaises(BadDeed, foe_answer, LARGE, (), (0,), 5)

    def test_true_and_false_are_no_deeds(self):
        self.assertEqual(foe_answer(MAZE, (0,), (1,), 0), (1,))
        self.assertEqual(foe_answer(MAZE, (0,), (1,), 1), (0,))
        self.assertRaises(BadDeed, foe_answer, MAZE, (0,), (1,), False)
        self.assertRaises(BadDeed, foe_answer, MAZE, (0,), (1,), True)

    def test_what_can_not_be_done(self):
        for crowd, deed in (((0,), 1), ((3,), 0), ((0, 1), 1), ((2, 3), 0), ((2, 3), 1), ((4,), 1), ((0, 1, 2, 3), 0)):
            with self.subTest(crowd=crowd, deed=deed):
                self.assertRaises(BadDeed, foe_answer, MAZE, (0,), crowd, deed)
        self.assertRaises(BadDeed, foe_answer, FORK, (), (3,), 0)


class TestOrderOfRefusals(unittest.TestCase):
    def test_works_first(self):
        for works in SOME_NO_WORKS:
            for looks in SOME_NO_LOOKS + [(0,)]:
                for asked in WITHOUT_PLAN:
                    self.assertRaises(BadWorks, asked, works, looks)
                for plan in SOME_NO_PLANS + [MAZE_PLAN]:
                    for asked in WITH_PLAN:
                        self.assertRaises(BadWorks, asked, works, looks, plan)
                    self.assertRaises(BadWorks, run, works, looks, plan, 9, None)
                    self.assertRaises(BadWorks, run, works, looks, plan, 0, [])
                for crowd in SOME_NO_CROWDS + [(0,)]:
                    for deed in SOME_NO_DEEDS + [0]:
                        self.assertRaises(BadWorks, foe_answer, works, looks, crowd, deed)

    def test_works_ahead_of_prices_numbers_and_a_look(self):
        for works in SOME_NO_WORKS:
            for prices in SOME_NO_PRICES + [((1, 1), (1, 1))]:
                for asked in WITH_PRICES:
                    self.assertRaises(BadWorks, asked, works, prices)
            for most in SOME_NO_MOST + [0, 999]:
                self.assertRaises(BadWorks, weakest_within, works, most)
            for look in SOME_NO_LOOKS + [-1, 2, True, None, 1]:
                self.assertRaises(BadWorks, worth_of, works, look)

    def test_each_of_these_alone(self):
        for prices in SOME_NO_PRICES:
            for asked in WITH_PRICES:
                self.assertRaises(BadPrices, asked, MAZE, prices)
        for most in SOME_NO_MOST:
            self.assertRaises(BadNumber, weakest_within, MAZE, most)
        for look in (-1, 2, True, False, None, (0,), "0", Strange()):
            self.assertRaises(BadLooks, worth_of, MAZE, look)

    def test_then_looks(self):
        for looks in SOME_NO_LOOKS:
            for plan in SOME_NO_PLANS + [MAZE_PLAN]:
                for asked in WITH_PLAN:
                    self.assertRaises(BadLooks, asked, MAZE, looks, plan)
                self.assertRaises(BadLooks, run, MAZE, looks, plan, 9, None)
                self.assertRaises(BadLooks, run, MAZE, looks, plan, 0, [1000])
            for crowd in SOME_NO_CROWDS + [(0,)]:
                for deed in SOME_NO_DEEDS + [0]:
                    self.assertRaises(BadLooks, foe_answer, MAZE, looks, crowd, deed)

    def test_the_plan_ahead_of_the_run(self):
        for plan in SOME_NO_PLANS:
            for state in (9, 4, -1, None, True, Strange()):
                for picks in (None, (), [1000], [True], []):
                    self.assertRaises(BadPlan, run, MAZE, (0,), plan, state, picks)
        for state, picks in ((9, []), (0, None), (9, None), (True, [True])):
            self.assertRaises(BadRun, run, MAZE, (0,), MAZE_PLAN, state, picks)

    def test_the_crowd_ahead_of_the_deed(self):
        for crowd in SOME_NO_CROWDS:
            for deed in SOME_NO_DEEDS + [0, 1]:
                self.assertRaises(BadCrowd, foe_answer, MAZE, (0,), crowd, deed)
        for deed in SOME_NO_DEEDS + [1]:
            self.assertRaises(BadDeed, foe_answer, MAZE, (0,), (0, 1), deed)

    def test_no_plan_where_there_is_none_is_refused_by_excess_too(self):
        self.assertIsNone(fewest(FORK, ()))
        self.assertRaises(BadPlan, excess, FORK, (), None)
        self.assertRaises(BadPlan, excess, FORK, (), (((), DONE),))


if __name__ == "__main__":
    unittest.main()
