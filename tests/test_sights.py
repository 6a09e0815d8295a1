"""Looks: the needless ones, the weakest choices that are enough, and what a look is worth."""

import random
import unittest

from halfseen.errors import BadLooks, BadNumber
from halfseen.finding import fewest
from halfseen.sights import needless, weakest, weakest_within, worth_of
from tests.reference import choices, large_works, slow_fewest, slow_weakest, some_works
from tests.samples import FOUR, LARGE, NO_NUMBERS, ONE, TWO, replaced
from tests.worlds import BOTH, EACH, FIRST, FOE, FORK, HELD, LINE, MAZE, NOTHING, RING, ROUND, SECOND, STAY, quad

# The goal is begin, and there is no look.
AT_ONCE = (1, (((0,),),), (), (0,), (0,))
BY_HAND = [FOUR, ONE, TWO, LARGE, FORK, LINE, MAZE, FOE, HELD, ROUND, STAY, BOTH, AT_ONCE,
           quad((FIRST, SECOND)), quad((NOTHING, EACH, FIRST, SECOND)), quad((FIRST, FIRST, SECOND, SECOND))]


def some_of_all(seed, count):
    """Works by a fixed seed, with up to four looks, each of which tells little."""
    source = random.Random(seed)
    found = []
    for number in range(count):
        works = some_works(source)
        looks = tuple(tuple(source.randint(0, 1) for state in range(works[0])) for look in range(source.randint(0, 4)))
        found.append(replaced(works, (2,), looks))
    return found


def without(works, look):
    return tuple(other for other in range(len(works[2])) if other != look)


class TestNeedless(unittest.TestCase):
    def test_a_look_that_tells_nothing(self):
        self.assertEqual(needless(FORK), [1])
        self.assertEqual(needless(replaced(FORK, (2,), FORK[2][::-1])), [0])
        self.assertEqual(needless(quad((FIRST, NOTHING, SECOND))), [1])
        self.assertEqual(needless(replaced(BOTH, (2,), ((4, 4, 4),))), [0])

    def test_a_look_without_which_there_is_no_plan(self):
        self.assertEqual(needless(quad((FIRST, SECOND))), [])
        self.assertEqual(needless(quad((EACH,))), [])
        self.assertEqual(needless(quad((NOTHING, EACH, NOTHING))), [0, 2])

    def test_a_look_without_which_more_deeds_are_needed(self):
        self.assertEqual((fewest(BOTH, (0,)), fewest(BOTH, ())), (1, 2))
        self.assertEqual(needless(BOTH), [])

    def test_looks_that_can_stand_for_one_another(self):
        self.assertEqual(needless(quad((EACH, EACH))), [0, 1])
        self.assertEqual(needless(quad((FIRST, SECOND, EACH))), [0, 1, 2])
        self.assertEqual(needless(quad((FIRST, FIRST, SECOND))), [0, 1])

    def test_no_plan_at_all(self):
        self.assertEqual(needless(replaced(FORK, (4,), ())), [0, 1])
        self.assertEqual(needless(ROUND), [0])
        self.assertEqual(needless(quad((FIRST, NOTHING, FIRST, FIRST))), [0, 1, 2, 3])

    def test_no_look(self):
        for works in (ONE, AT_ONCE):
            told = needless(works)
            self.assertEqual(told, [])
            self.assertIsInstance(told, list)

    def test_against_a_slower_way(self):
        told = []
        for works in BY_HAND + some_of_all(31, 300):
            looks = range(len(works[2]))
            with_all = slow_fewest(works, tuple(looks), works[3])
            expected = [look for look in looks if slow_fewest(works, without(works, look), works[3]) == with_all]
            self.assertEqual(needless(works), expected, works)
            told.append(tuple(expected))
        self.assertEqual([looks for looks in ((), (0,), (1,), (0, 1)) if looks not in told], [])


class TestWorth(unittest.TestCase):
    def test_a_look_that_tells_nothing(self):
        self.assertEqual(worth_of(FORK, 1), 0)
        self.assertEqual(worth_of(quad((FIRST, NOTHING, SECOND)), 1), 0)

    def test_none_without_which_there_is_no_plan(self):
        self.assertIsNone(worth_of(FORK, 0))
        self.assertIsNone(worth_of(quad((FIRST, NOTHING, SECOND)), 0))
        self.assertIsNone(worth_of(quad((FIRST, NOTHING, SECOND)), 2))

    def test_deeds_more(self):
        self.assertEqual(worth_of(BOTH, 0), 1)
        # Seen whole, seven deeds, and blindly 49.
        self.assertEqual(worth_of(replaced(RING, (2,), ((0, 1, 2, 3, 4, 5, 6, 7),)), 0), 42)

    def test_another_look_stands_for_it(self):
        for look in (0, 1, 2):
            self.assertEqual(worth_of(quad((FIRST, SECOND, EACH)), look), 0)
        self.assertEqual(worth_of(replaced(BOTH, (2,), BOTH[2] * 2), 0), 0)

    def test_0_where_there_is_no_plan(self):
        for look in (0, 1):
            self.assertEqual(worth_of(replaced(FORK, (4,), ()), look), 0)
        self.assertEqual(worth_of(ROUND, 0), 0)

    def test_against_a_slower_way(self):
        told = []
        for works in BY_HAND + some_of_all(32, 300):
            for look in range(len(works[2])):
                with_all = slow_fewest(works, tuple(range(len(works[2]))), works[3])
                others = slow_fewest(works, without(works, look), works[3])
                told.append(worth_of(works, look))
                if with_all is None:
                    self.assertEqual(told[-1], 0)
                elif others is None:
                    self.assertIsNone(told[-1])
                else:
                    self.assertEqual(told[-1], others - with_all)
        self.assertEqual([worth for worth in (None, 0, 1, 2) if worth not in told], [])

    def test_what_is_no_look_is_refused(self):
        for works in (FORK, FOUR, TWO, LARGE):
            for look in NO_NUMBERS + [-1, len(works[2]), len(works[2]) + 1, 10 ** 30, -10 ** 30]:
                with self.subTest(kind=look.__class__):
                    self.assertRaises(BadLooks, worth_of, works, look)
            for look in range(len(works[2])):
                worth_of(works, look)

    def test_true_and_false_are_no_looks(self):
        for look in (True, False):
            self.assertRaises(BadLooks, worth_of, FORK, look)

    def test_no_look(self):
        for works in (ONE, AT_ONCE):
            for look in (0, -1, 1, None, False, ()):
                self.assertRaises(BadLooks, worth_of, works, look)


class TestWeakest(unittest.TestCase):
    def test_worked_out_by_hand(self):
        self.assertEqual(weakest(FORK), [(0,)])
        self.assertEqual(weakest(BOTH), [()])
        self.assertEqual(weakest(quad((FIRST, SECOND))), [(0, 1)])
        self.assertEqual(weakest(quad((EACH, EACH))), [(0,), (1,)])

    def test_fewer_looks_first(self):
        self.assertEqual(weakest(quad((FIRST, SECOND, NOTHING, EACH))), [(3,), (0, 1)])
        self.assertEqual(weakest(quad((FIRST, EACH, SECOND))), [(1,), (0, 2)])

    def test_then_rising(self):
        self.assertEqual(weakest(quad((FIRST, SECOND, FIRST, SECOND))), [(0, 1), (0, 3), (1, 2), (2, 3)])
        self.assertEqual(weakest(quad((SECOND, FIRST, FIRST, FIRST))), [(0, 1), (0, 2), (0, 3)])
        self.assertEqual(weakest(quad((FIRST, EACH, SECOND, EACH))), [(1,), (3,), (0, 2)])

    def test_the_empty_choice(self):
        for works in (AT_ONCE, LARGE, LINE, RING, STAY):
            self.assertEqual(weakest(works), [()])

    def test_none_is_enough(self):
        for works in (ONE, ROUND, HELD, replaced(FORK, (4,), ()), quad((FIRST, NOTHING)), quad(())):
            told = weakest(works)
            self.assertEqual(told, [])
            self.assertIsInstance(told, list)

    def test_all_choices_tried(self):
        lengths = []
        for works in BY_HAND + some_of_all(33, 300):
            told = weakest(works)
            self.assertEqual(told, slow_weakest(works, None), works)
            lengths.append(len(told))
        self.assertEqual([length for length in (0, 1, 2) if length not in lengths], [])

    def test_the_greatest_size(self):
        for works in [RING, LARGE] + [large_works(seed) for seed in range(12)]:
            enough = [looks for looks in choices(works) if fewest(works, looks) is not None]
            least = [looks for looks in enough if not any(set(other) < set(looks) for other in enough)]
            self.assertEqual(weakest(works), sorted(sorted(least), key=len))


class TestWeakestWithin(unittest.TestCase):
    def test_worked_out_by_hand(self):
        self.assertEqual(weakest_within(BOTH, 0), [])
        self.assertEqual(weakest_within(BOTH, 1), [(0,)])
        self.assertEqual(weakest_within(BOTH, 2), [()])
        self.assertEqual(weakest_within(BOTH, 999), [()])

    def test_one_less_than_the_fewest(self):
        four = quad((FIRST, SECOND, NOTHING, EACH))
        self.assertEqual(fewest(four, (0, 1, 2, 3)), 2)
        self.assertEqual(weakest_within(four, 1), [])
        self.assertEqual(weakest_within(four, 2), [(3,), (0, 1)])
        self.assertEqual(weakest_within(RING, 6), [])
        self.assertEqual(weakest_within(RING, 7), [(0, 1, 2)])
        self.assertNotEqual(weakest_within(RING, 48), [()])
        self.assertEqual(weakest_within(RING, 49), [()])

    def test_a_number_of_0(self):
        for works in (AT_ONCE, LARGE, FOE):
            self.assertEqual(weakest_within(works, 0), [()])
        for works in (ONE, FORK, LINE, RING, BOTH):
            told = weakest_within(works, 0)
            self.assertEqual(told, [])
            self.assertIsInstance(told, list)

    def test_a_number_of_999(self):
        for works in BY_HAND + [RING]:
            self.assertEqual(weakest_within(works, 999), weakest(works))

    def test_all_choices_tried(self):
        with_another = 0
        for works in BY_HAND + some_of_all(34, 300):
            for most in (0, 1, 2, 3, 999):
                told = weakest_within(works, most)
                self.assertEqual(told, slow_weakest(works, most), (works, most))
                with_another += told not in ([], weakest(works))
        self.assertGreater(with_another, 5)

    def test_the_greatest_size(self):
        with_another = 0
        for works in [RING] + [large_works(seed) for seed in range(12)]:
            deeds = {looks: fewest(works, looks) for looks in choices(works)}
            for most in sorted({number for number in deeds.values() if number is not None}):
                enough = [looks for looks in deeds if deeds[looks] is not None and deeds[looks] <= most]
                least = [looks for looks in enough if not any(set(other) < set(looks) for other in enough)]
                self.assertEqual(weakest_within(works, most), sorted(sorted(least), key=len))
                with_another += least != weakest(works)
        self.assertGreater(with_another, 20)

    def test_what_is_no_number_is_refused(self):
        for works in (FORK, ONE, LARGE):
            for most in NO_NUMBERS + [-1, 1000, 1001, 10 ** 30, -10 ** 30]:
                with self.subTest(kind=most.__class__):
                    self.assertRaises(BadNumber, weakest_within, works, most)
            for most in (0, 1, 998, 999):
                weakest_within(works, most)

    def test_true_and_false_are_no_numbers(self):
        for most in (True, False):
            self.assertRaises(BadNumber, weakest_within, BOTH, most)


if __name__ == "__main__":
    unittest.main()
