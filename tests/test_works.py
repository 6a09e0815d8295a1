"""Works: what they are, the choice of all looks, and the refusal of what are none."""

import copy
import unittest

from halfseen.crowds import after, doable, parts
from halfseen.errors import BadWorks
from halfseen.works import all_looks, checked
from tests.samples import ALL_EIGHT, FOUR, LARGE, ONE, TWO, no_works, replaced

ALL_FIVE = [
    ("checked", checked),
    ("all_looks", all_looks),
    ("doable", lambda works: doable(works, (0,))),
    ("after", lambda works: after(works, (0,), 0)),
    ("parts", lambda works: parts(works, (), (0,))),
]


class TestWorks(unittest.TestCase):
    def let_by(self, works):
        self.assertIs(checked(works), works)
        for name, asked in ALL_FIVE:
            with self.subTest(name=name):
                asked(works)

    def refused(self, works):
        for name, asked in ALL_FIVE:
            with self.subTest(name=name, kind=works.__class__):
                self.assertRaises(BadWorks, asked, works)

    def test_checked_answers_the_works_as_they_are(self):
        for works in (FOUR, ONE, TWO, LARGE):
            as_it_was = copy.deepcopy(works)
            self.assertIs(checked(works), works)
            self.assertEqual(works, as_it_was)

    def test_all_looks(self):
        self.assertEqual(all_looks(FOUR), (0, 1, 2))
        self.assertEqual(all_looks(TWO), (0, 1))
        self.assertEqual(all_looks(LARGE), (0, 1, 2, 3))
        self.assertEqual(all_looks(replaced(TWO, (2,), ((0, 0),))), (0,))
        told = all_looks(ONE)
        self.assertEqual(told, ())
        self.assertIsInstance(told, tuple)

    def test_the_edges_are_let_by(self):
        deed, look = TWO[1][0], TWO[2][0]
        for count in (1, 2, 3, 4, 5):
            self.let_by(replaced(TWO, (1,), (deed,) * count))
        for count in (0, 1, 2, 3, 4):
            self.let_by(replaced(TWO, (2,), (look,) * count))
        for many in (1, 2, 3, 4, 5, 6, 7, 8):
            crowd = ALL_EIGHT[:many]
            self.let_by((many, ((crowd,) * many,), ((0,) * many,), crowd, crowd))
        for told in range(10):
            self.let_by(replaced(TWO, (2, 0, 1), told))

    def test_the_goal_may_be_empty(self):
        for works in (FOUR, ONE, TWO, LARGE):
            self.let_by(replaced(works, (4,), ()))

    def test_a_deed_may_be_one_that_can_be_done_nowhere(self):
        works = replaced(TWO, (1, 1), ((), ()))
        self.assertIs(checked(works), works)

    def test_what_are_no_works_are_refused(self):
        count = 0
        for works in no_works():
            self.refused(works)
            count += 1
        self.assertGreater(count, 1000)

    def test_true_for_one_state(self):
        self.refused((True, (((0,),),), ((0,),), (0,), (0,)))
        self.refused((1, (((False,),),), ((0,),), (0,), (0,)))
        self.refused((1, (((0,),),), ((False,),), (0,), (0,)))
        self.refused((1, (((0,),),), ((0,),), (False,), (0,)))
        self.refused((1, (((0,),),), ((0,),), (0,), (False,)))


if __name__ == "__main__":
    unittest.main()
