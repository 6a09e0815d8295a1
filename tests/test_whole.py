"""What the document promises of the whole program: its interface, and that nothing is changed or kept."""

import copy
import importlib
import inspect
import random
import time
import unittest

from halfseen.crowds import after, doable, parts
from halfseen.finding import a_plan, fewest
from halfseen.merging import alike_states, merged
from halfseen.plans import deeds_in, deepest, excess, run
from halfseen.prices import a_bought_plan, cheapest
from halfseen.sights import needless, weakest, weakest_within, worth_of
from halfseen.strengths import blind_row, by_luck, patient_table, seen_whole, strength
from halfseen.traps import foe_answer, held_in, traps, why_none
from halfseen.works import all_looks, checked
from tests.reference import blown_up, choices, large_works, renumbered, some_prices, some_works
from tests.samples import ALL_EIGHT, LARGE, TWO, replaced
from tests.worlds import (
    AGAIN, BOTH, EACH, FIRST, FOE, FORK, HELD, LINE, MAZE, MAZE_PLAN, RING, RISK, ROUND, SECOND, SLOPE, STAY, STAY_TWICE,
    TWICE, quad)

INTERFACE = {
    "works": {"checked": "works", "all_looks": "works"},
    "crowds": {"doable": "works crowd", "after": "works crowd deed", "parts": "works looks crowd"},
    "finding": {"fewest": "works looks", "a_plan": "works looks"},
    "plans": {"deepest": "works looks plan", "excess": "works looks plan", "deeds_in": "works looks plan",
              "run": "works looks plan state picks"},
    "traps": {"traps": "works looks", "why_none": "works looks", "held_in": "works looks",
              "foe_answer": "works looks crowd deed"},
    "sights": {"needless": "works", "weakest": "works", "weakest_within": "works most", "worth_of": "works look"},
    "strengths": {"by_luck": "works looks", "patient_table": "works looks", "strength": "works looks",
                  "blind_row": "works", "seen_whole": "works"},
    "prices": {"cheapest": "works prices", "a_bought_plan": "works prices"},
    "merging": {"alike_states": "works", "merged": "works"},
}

QUAD = quad((FIRST, SECOND, EACH))
QUAD_PRICES = ((1, 2, 3, 4, 5), (2, 2, 5))

# Each function with what is handed in: where it tells a list, one that is not empty.
CALLS = [
    (checked, (MAZE,)),
    (all_looks, (MAZE,)),
    (doable, (MAZE, (1,))),
    (after, (MAZE, (0, 1), 0)),
    (parts, (MAZE, (0,), (0, 1, 2))),
    (fewest, (MAZE, (0,))),
    (a_plan, (MAZE, (0,))),
    (deepest, (MAZE, (0,), MAZE_PLAN)),
    (excess, (MAZE, (0,), MAZE_PLAN)),
    (deeds_in, (MAZE, (0,), MAZE_PLAN)),
    (run, (MAZE, (0,), MAZE_PLAN, 0, [1, 7, 999])),
    (traps, (FORK, ())),
    (why_none, (FORK, ())),
    (held_in, (FORK, ())),
    (foe_answer, (FOE, (0,), (0,), 1)),
    (needless, (QUAD,)),
    (weakest, (QUAD,)),
    (weakest_within, (QUAD, 2)),
    (worth_of, (BOTH, 0)),
    (by_luck, (RISK, (0,))),
    (patient_table, (RISK, (0,))),
    (strength, (RISK, (0,))),
    (blind_row, (LINE,)),
    (seen_whole, (LINE,)),
    (cheapest, (QUAD, QUAD_PRICES)),
    (a_bought_plan, (QUAD, QUAD_PRICES)),
    (alike_states, (STAY_TWICE,)),
    (merged, (STAY_TWICE,)),
]


def lists_in(thing):
    """All lists within what was told, itself among them, the inner ones first."""
    found = []
    if isinstance(thing, (list, tuple)):
        for inner in thing:
            found.extend(lists_in(inner))
    if isinstance(thing, list):
        found.append(thing)
    return found


class TestInterface(unittest.TestCase):
    def test_names_and_arguments(self):
        for module, functions in INTERFACE.items():
            for name, arguments in functions.items():
                with self.subTest(module=module, name=name):
                    asked = getattr(importlib.import_module("halfseen." + module), name)
                    parameters = inspect.signature(asked).parameters.values()
                    self.assertEqual([parameter.name for parameter in parameters], arguments.split())
                    self.assertTrue(all(parameter.default is parameter.empty for parameter in parameters))

    def test_arguments_by_their_names(self):
        for asked, handed in CALLS:
            names = list(inspect.signature(asked).parameters)
            self.assertEqual(asked(**dict(zip(names, handed))), asked(*handed))

    def test_all_are_called_here(self):
        names = [asked.__name__ for asked, handed in CALLS]
        self.assertEqual(names, [name for functions in INTERFACE.values() for name in functions])


class TestNothingIsChangedOrKept(unittest.TestCase):
    def test_what_is_handed_in_stays_as_it_was(self):
        for asked, handed in CALLS:
            with self.subTest(name=asked.__name__):
                as_it_was = copy.deepcopy(handed)
                asked(*handed)
                self.assertEqual(handed, as_it_was)

    def test_lists_that_are_told_are_new_ones(self):
        with_lists = []
        for asked, handed in CALLS:
            with self.subTest(name=asked.__name__):
                first = copy.deepcopy(asked(*handed))
                for turn in range(2):
                    told = asked(*handed)
                    self.assertEqual(told, first)
                    for inner in lists_in(told):
                        inner.clear()
                        with_lists.append(asked.__name__)
                self.assertEqual(asked(*handed), first)
        self.assertEqual(sorted(set(with_lists)), sorted(
            ["doable", "parts", "deeds_in", "run", "traps", "why_none", "held_in", "needless", "weakest",
             "weakest_within", "patient_table", "blind_row", "alike_states"]))

    def test_lists_within_one_another_are_not_the_same(self):
        for asked, handed in CALLS:
            told = lists_in(asked(*handed))
            self.assertEqual(len({id(inner) for inner in told}), len(told))

    def test_nothing_is_kept_between_calls(self):
        first = [copy.deepcopy(asked(*handed)) for asked, handed in CALLS]
        for works in (TWO, FORK, HELD, SLOPE, AGAIN, ROUND, TWICE, STAY, QUAD):
            prices = ((1,) * len(works[1]), (20,) * len(works[2]))
            for asked in (needless, weakest, blind_row, seen_whole, alike_states, merged):
                asked(works)
            for asked in (fewest, a_plan, traps, why_none, held_in, by_luck, patient_table, strength):
                asked(works, ())
            cheapest(works, prices)
            a_bought_plan(works, prices)
            weakest_within(works, 1)
            worth_of(works, 0)
        again = [asked(*handed) for asked, handed in reversed(CALLS)]
        self.assertEqual(again[::-1], first)


class TestStatesNumberedOtherwise(unittest.TestCase):
    def told_of(self, works, prices):
        return {
            "fewest": [fewest(works, looks) for looks in choices(works)],
            "luck": [by_luck(works, looks) for looks in choices(works)],
            "strength": [strength(works, looks) for looks in choices(works)],
            "needless": needless(works),
            "weakest": weakest(works),
            "within": [weakest_within(works, most) for most in (0, 1, 2, 3)],
            "worth": [worth_of(works, look) for look in range(len(works[2]))],
            "price": cheapest(works, prices),
            "traps": [len(traps(works, looks)) for looks in choices(works)],
            "kinds": sorted(len(alike) for alike in alike_states(works)),
            "whole": seen_whole(works),
        }

    def same(self, source, works):
        prices = some_prices(source, works, 20)
        numbers = source.sample(range(works[0]), works[0])
        other = renumbered(works, numbers)
        self.assertEqual(self.told_of(other, prices), self.told_of(works, prices), (works, numbers))
        # No plan depends on the numbers of the states.
        for looks in choices(works):
            plan = a_plan(works, looks)
            if plan is not None:
                self.assertEqual(deepest(other, looks, plan), fewest(works, looks))

    def test_by_hand(self):
        source = random.Random(71)
        for works in (FORK, LINE, MAZE, FOE, HELD, ROUND, STAY, STAY_TWICE, BOTH, TWICE, AGAIN, RISK, SLOPE, QUAD):
            for turn in range(3):
                self.same(source, works)

    def test_by_chance(self):
        source = random.Random(72)
        for number in range(60):
            works = some_works(source)
            self.same(source, works)
            self.same(source, blown_up(source, works, 6))

    def test_the_greatest_size(self):
        source = random.Random(73)
        for seed in range(3):
            self.same(source, large_works(seed))


class TestTheGreatestSize(unittest.TestCase):
    def ask_all(self, works, prices):
        for asked in (checked, all_looks, needless, weakest, blind_row, seen_whole, alike_states, merged):
            self.timed(asked, works)
        for look in range(4):
            self.timed(worth_of, works, look)
        self.timed(weakest_within, works, 999)
        self.timed(weakest_within, works, 5)
        self.timed(cheapest, works, prices)
        self.timed(a_bought_plan, works, prices)
        for looks in ((), (0,), (1, 2), (0, 1, 2, 3)):
            for asked in (fewest, a_plan, traps, why_none, held_in, by_luck, patient_table, strength):
                self.timed(asked, works, looks)
            plan = a_plan(works, looks)
            if plan is not None:
                for asked in (deepest, excess, deeds_in):
                    self.timed(asked, works, looks, plan)
                self.timed(run, works, looks, plan, works[3][0], [])
            self.timed(parts, works, looks, ALL_EIGHT)
            for deed in self.timed(doable, works, (0,)):
                self.timed(after, works, (0,), deed)
                self.timed(foe_answer, works, looks, (0,), deed)

    def timed(self, asked, *handed):
        begun = time.monotonic()
        told = asked(*handed)
        # Far more than is needed, so that a slow machine does not fail.
        self.assertLess(time.monotonic() - begun, 20, asked.__name__)
        return told

    def test_each_function(self):
        source = random.Random(74)
        blind_ring = replaced(RING, (2,), ((9,) * 8,) * 4)
        for works in [RING, blind_ring, replaced(RING, (4,), ()), LARGE, replaced(LARGE, (4,), ())]:
            self.ask_all(works, some_prices(source, works, 20))
        for seed in range(6):
            works = large_works(seed)
            self.ask_all(works, some_prices(source, works, 20))
            self.ask_all(works, ((1,) * 5, (1,) * 4))


if __name__ == "__main__":
    unittest.main()
