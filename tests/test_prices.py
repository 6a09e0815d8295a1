"""Prices: bought plans, the least price, and the refusal of what are no prices."""

import random
import unittest

from halfseen.errors import BadPrices
from halfseen.prices import a_bought_plan, cheapest
from tests.reference import (
    large_works, parts_of, price_at_worst, slow_cheapest, slow_fewest, some_prices, some_works)
from tests.samples import FOUR, LARGE, NO_NUMBERS, NO_TUPLES, ONE, TWO, at_path, paths, replaced
from tests.worlds import (
    AGAIN, BOTH, DONE, EACH, FIRST, FOE, FORK, HELD, LINE, MAZE, NOTHING, RING, ROUND, SECOND, STAY, STAY_TWICE, TWICE,
    quad)

# From 0 step by step to 3, or at once by deed 1.
SHORTCUT = (4, (((1,), (2,), (3,), ()), ((3,), (), (), ())), (), (0,), (3,))

# FIRST tells 1 and 2 from 3 alone; what is right in 3 may be dear.
UNEVEN = (
    5,
    (((), (4,), (), (), ()), ((), (), (4,), (), ()), ((), (), (), (4,), ())),
    ((0, 0, 0, 1, 0), (0, 0, 1, 1, 0)),
    (1, 2, 3),
    (4,),
)
BY_HAND = [FOUR, ONE, TWO, FORK, LINE, MAZE, FOE, HELD, ROUND, STAY, STAY_TWICE, BOTH, TWICE, AGAIN, SHORTCUT, UNEVEN,
           quad((FIRST, SECOND, EACH, NOTHING))]


def do(deed, plan):
    return ("do", deed, plan)


def look(number, *rows):
    return ("look", number, rows)


class TestByHand(unittest.TestCase):
    def told(self, works, prices, price, plan):
        self.assertEqual(cheapest(works, prices), price)
        self.assertEqual(a_bought_plan(works, prices), plan)

    def test_one_is_there_at_once(self):
        self.told((1, (((0,),),), (), (0,), (0,)), ((1,), ()), 0, DONE)
        self.told(LARGE, ((1,) * 5, (1,) * 4), 0, DONE)
        self.told(FOE, ((20,) * 4, (20,) * 2), 0, DONE)

    def test_a_look_that_is_worth_its_price(self):
        forked = look(0, (0, do(0, DONE)), (1, do(1, DONE)))
        self.told(BOTH, ((1, 5), (1,)), 6, forked)
        self.told(BOTH, ((1, 5), (4,)), 9, forked)
        self.told(BOTH, ((5, 20), (19,)), 39, forked)

    def test_a_look_that_is_not(self):
        blindly = do(1, do(1, DONE))
        self.told(BOTH, ((1, 5), (6,)), 10, blindly)
        self.told(BOTH, ((1, 5), (20,)), 10, blindly)
        self.told(BOTH, ((1, 1), (2,)), 2, blindly)

    def test_a_look_without_which_there_is_no_plan(self):
        plan = do(0, look(0, (0, do(1, DONE)), (1, do(2, DONE))))
        self.told(FORK, ((1, 2, 3), (4, 5)), 8, plan)
        self.told(FORK, ((1, 3, 2), (4, 5)), 8, plan)
        self.told(FORK, ((20, 20, 20), (20, 1)), 60, plan)

    def test_a_look_that_is_bought_twice_on_a_way(self):
        last = look(0, (0, do(1, DONE)), (1, do(2, DONE)))
        plan = do(0, look(0, (0, do(1, last)), (1, do(2, last))))
        self.told(TWICE, ((1, 2, 3), (4,)), 1 + 4 + 3 + 4 + 3, plan)
        self.told(TWICE, ((1, 3, 2), (20,)), 1 + 20 + 3 + 20 + 3, plan)

    def test_one_look_at_a_time(self):
        right = {number: do(number, DONE) for number in (1, 2, 3, 4)}
        at_once = do(0, look(2, *[(number, right[number]) for number in (1, 2, 3, 4)]))
        works = quad((FIRST, SECOND, EACH, NOTHING))
        self.told(works, ((1, 2, 3, 4, 5), (3, 3, 5, 1)), 1 + 5 + 5, at_once)
        self.assertEqual(cheapest(works, ((1, 2, 3, 4, 5), (3, 3, 7, 1))), 1 + 3 + 3 + 5)
        plan = a_bought_plan(works, ((1, 2, 3, 4, 5), (3, 3, 7, 1)))
        first_then_second = do(0, look(0, (0, look(1, (0, right[1]), (1, right[2]))), (1, look(1, (0, right[3]), (1, right[4])))))
        second_then_first = do(0, look(1, (0, look(0, (0, right[1]), (1, right[3]))), (1, look(0, (0, right[2]), (1, right[4])))))
        self.assertIn(plan, (first_then_second, second_then_first))

    def test_the_dearest_way_counts_and_not_the_sum(self):
        plan = look(0, (0, look(1, (0, do(0, DONE)), (1, do(1, DONE)))), (1, do(2, DONE)))
        self.told(UNEVEN, ((1, 1, 10), (1, 4)), 11, plan)
        self.told(UNEVEN, ((1, 1, 3), (1, 4)), 6, plan)
        # The other look first, where the deed in 1 is dear.
        plan = look(1, (0, do(0, DONE)), (1, look(0, (0, do(1, DONE)), (1, do(2, DONE)))))
        self.told(UNEVEN, ((9, 1, 1), (4, 1)), 10, plan)

    def test_many_cheap_deeds_or_one_that_is_dear(self):
        self.told(SHORTCUT, ((1, 2), ()), 2, do(1, DONE))
        self.told(SHORTCUT, ((1, 4), ()), 3, do(0, do(0, do(0, DONE))))
        self.told(SHORTCUT, ((7, 20), ()), 20, do(1, DONE))
        self.told(SHORTCUT, ((6, 20), ()), 18, do(0, do(0, do(0, DONE))))

    def test_nothing_is_seen_without_a_look_that_is_bought(self):
        # With free looks each of these would be shorter.
        self.told(LINE, ((1,), (20, 20)), 3, do(0, do(0, do(0, DONE))))
        self.told(STAY, ((1, 1), (1,)), 1, do(1, DONE))
        # What is seen in begin is to be paid, too.
        works = replaced(BOTH, (3,), (0,))
        self.told(works, ((2, 3), (1,)), 2, do(0, DONE))

    def test_what_is_seen_in_rows_is_the_looks_own_number_and_rises(self):
        works = replaced(FORK, (2,), ((9, 8, 3, 9, 9),))
        self.told(works, ((1, 1, 1), (1,)), 3, do(0, look(0, (3, do(2, DONE)), (8, do(1, DONE)))))
        plan = a_bought_plan(works, ((1, 1, 1), (1,)))
        for row in plan[2][2]:
            self.assertEqual([row.__class__, row[0].__class__, row[1].__class__], [tuple, int, tuple])

    def test_none_where_there_is_no_plan(self):
        for works in (ONE, ROUND, HELD, AGAIN, quad((FIRST, NOTHING)), replaced(LINE, (4,), ()),
                      replaced(FORK, (2,), FORK[2][1:])):
            prices = ((1,) * len(works[1]), (1,) * len(works[2]))
            self.told(works, prices, None, None)

    def test_a_long_way(self):
        self.assertEqual(cheapest(replaced(RING, (2,), ()), ((1,) * 5, ())), 49)
        self.assertEqual(cheapest(replaced(RING, (2,), ()), ((20,) * 5, ())), 980)


class TestByChance(unittest.TestCase):
    def right(self, works, prices):
        price, plan = cheapest(works, prices), a_bought_plan(works, prices)
        if price is None:
            self.assertIsNone(plan, (works, prices))
        else:
            self.assertEqual(price_at_worst(works, prices, works[3], plan), price, (works, prices))
        return price, plan

    def words_in(self, plan):
        if plan[0] == "done":
            return ""
        if plan[0] == "do":
            return "d" + self.words_in(plan[2])
        return "l" + max([self.words_in(row[1]) for row in plan[2]], key=len)

    def test_against_a_slower_way(self):
        source = random.Random(51)
        prices_told, words = [], []
        for number in range(400):
            works = some_works(source)
            prices = some_prices(source, works, source.choice((1, 3, 20)))
            price, plan = self.right(works, prices)
            self.assertEqual(price, slow_cheapest(works, prices), (works, prices))
            prices_told.append(price)
            words.append("" if plan is None else self.words_in(plan))
        self.assertIn(None, prices_told)
        self.assertIn(0, prices_told)
        for start in ("d", "l", "dd", "dl", "ld"):
            self.assertGreater(len([row for row in words if row.startswith(start)]), 0, start)

    def test_by_hand_with_many_prices(self):
        source = random.Random(52)
        for works in BY_HAND:
            for most in (1, 3, 20):
                prices = some_prices(source, works, most)
                price, plan = self.right(works, prices)
                self.assertEqual(price, slow_cheapest(works, prices), (works, prices))

    def test_there_is_a_plan_just_where_there_is_one_with_all_looks(self):
        source = random.Random(53)
        for number in range(300):
            works = some_works(source)
            looks = tuple(range(len(works[2])))
            price = cheapest(works, some_prices(source, works, 20))
            self.assertEqual(price is None, slow_fewest(works, looks, works[3]) is None, works)

    def test_the_greatest_size(self):
        source = random.Random(54)
        prices_told = []
        for works in [RING, LARGE] + [large_works(seed) for seed in range(24)]:
            for most in (1, 20):
                prices = some_prices(source, works, most)
                price, plan = self.right(works, prices)
                prices_told.append(price)
                self.no_plan_is_cheaper(works, prices, price)
        self.assertIn(None, prices_told)
        self.assertGreater(len([price for price in prices_told if price]), 20)

    def no_plan_is_cheaper(self, works, prices, price):
        """Costs that no crowd can undercut by any one step: found by trying all crowds again and again."""
        costs = {}
        crowds = [tuple(state for state in range(8) if bits >> state & 1) for bits in range(1, 256)]
        ways = {crowd: list(self.ways_of(works, prices, crowd)) for crowd in crowds}
        changed = True
        while changed:
            changed = False
            for crowd in crowds:
                offers = [paid + max(costs.get(part, 10 ** 9) for part in parts) for paid, parts in ways[crowd]]
                least = 0 if set(crowd) <= set(works[4]) else min(offers, default=10 ** 9)
                if least < costs.get(crowd, 10 ** 9):
                    costs[crowd] = least
                    changed = True
        self.assertEqual(price, costs.get(works[3]))

    def ways_of(self, works, prices, crowd):
        for deed, leads in enumerate(works[1]):
            if all(leads[state] for state in crowd):
                yield prices[0][deed], [tuple(sorted({target for state in crowd for target in leads[state]}))]
        for number in range(len(works[2])):
            parts = [part for seen, part in parts_of(works, (number,), crowd)]
            if len(parts) > 1:
                yield prices[1][number], parts


class TestBadPrices(unittest.TestCase):
    def refused(self, works, prices):
        with self.subTest(kind=prices.__class__):
            self.assertRaises(BadPrices, cheapest, works, prices)
            self.assertRaises(BadPrices, a_bought_plan, works, prices)

    def let_by(self, works, prices):
        cheapest(works, prices)
        a_bought_plan(works, prices)

    def test_things_of_every_kind_at_each_place(self):
        for works, prices in ((FORK, ((1, 2, 3), (4, 5))), (SHORTCUT, ((1, 20), ())), (TWO, ((1, 1), (1, 1)))):
            self.let_by(works, prices)
            for path in paths(prices):
                old = at_path(prices, path)
                for other in NO_TUPLES + [list(old)] if isinstance(old, tuple) else NO_NUMBERS + [float(old), str(old)]:
                    self.refused(works, replaced(prices, path, other))

    def test_bounds(self):
        for path in ((0, 0), (0, 2), (1, 0), (1, 1)):
            for price in (0, 21, 22, -1, -20, 10 ** 30, -10 ** 30, True, False):
                self.refused(FORK, replaced(((1, 2, 3), (4, 5)), path, price))
            for price in (1, 2, 19, 20):
                self.let_by(FORK, replaced(((1, 2, 3), (4, 5)), path, price))
        for price in (1, 20):
            self.let_by(LARGE, ((price,) * 5, (price,) * 4))

    def test_too_few_and_too_many(self):
        for deeds in range(8):
            for looks in range(7):
                prices = ((1,) * deeds, (1,) * looks)
                for works in (FORK, LARGE, ONE, BOTH):
                    if (deeds, looks) == (len(works[1]), len(works[2])):
                        self.let_by(works, prices)
                    else:
                        self.refused(works, prices)

    def test_not_two_tuples(self):
        right = ((1, 2, 3), (4, 5))
        for prices in ((), right[:1], right + ((),), right + right, (right,), right[::-1], right[0] + right[1]):
            self.refused(FORK, prices)
        for prices in ((), ((1,),), ((1,), (), ())):
            self.refused(ONE, prices)
        self.let_by(ONE, ((1,), ()))

    def test_refused_also_where_one_is_there_at_once_or_never(self):
        for works in (LARGE, ONE, ROUND):
            self.refused(works, None)
            self.refused(works, ((0,) * len(works[1]), (1,) * len(works[2])))


if __name__ == "__main__":
    unittest.main()
