"""The refusals: how they stand under one another, and a BadPlan's at."""

import unittest

from halfseen.errors import (
    BadCrowd, BadDeed, BadLooks, BadNumber, BadPlan, BadPrices, BadRun, BadWorks, SeenError)

ALL = [BadWorks, BadLooks, BadCrowd, BadDeed, BadPlan, BadRun, BadPrices, BadNumber]


def taken(error, kind):
    try:
        try:
            raise error
        except kind:
            return True
    except Exception:
        return False


class TestErrors(unittest.TestCase):
    def test_each_is_taken_by_seen_error_and_value_error(self):
        for kind in ALL:
            with self.subTest(kind=kind):
                self.assertTrue(taken(kind(()), SeenError))
                self.assertTrue(taken(kind(()), ValueError))
                self.assertEqual(kind.__bases__, (SeenError,))

    def test_none_is_taken_by_another(self):
        for kind in ALL:
            for other in ALL:
                with self.subTest(kind=kind, other=other):
                    self.assertEqual(taken(kind(()), other), kind is other)

    def test_seen_error_stands_under_value_error(self):
        self.assertEqual(SeenError.__bases__, (ValueError,))
        self.assertTrue(taken(SeenError("no"), ValueError))
        for kind in ALL:
            self.assertFalse(taken(SeenError("no"), kind))

    def test_bad_plan_has_its_at_from_the_first(self):
        for at in ((), ((),), ((1, 0), (2, 9))):
            made = BadPlan(at)
            self.assertEqual(made.at, at)
            with self.assertRaises(SeenError) as caught:
                raise made
            self.assertEqual(caught.exception.at, at)

    def test_each_bad_plan_has_an_at_of_its_own(self):
        first, second = BadPlan(((1,),)), BadPlan(((2,),))
        self.assertEqual((first.at, second.at), (((1,),), ((2,),)))

    def test_the_other_refusals_have_no_at(self):
        for kind in ALL:
            if kind is not BadPlan:
                self.assertFalse(hasattr(kind("no"), "at"))


if __name__ == "__main__":
    unittest.main()
