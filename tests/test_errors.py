import unittest

from besideseats.errors import (
    Full, NoGroup, NoHall, NoName, NoRow, NoSeating, NoText, SeatError, TooGreat, Twice,
)

HANDED_A_TEXT = (NoHall, NoGroup, NoText, NoSeating, NoRow, NoName, Twice)
ALL = HANDED_A_TEXT + (Full, TooGreat)


class Classes(unittest.TestCase):
    def test_any_refusal_is_a_value_error(self):
        self.assertTrue(issubclass(SeatError, ValueError))

    def test_each_stands_under_seat_error(self):
        for one in ALL:
            with self.subTest(one=one.__name__):
                self.assertTrue(issubclass(one, SeatError))
                self.assertIsNot(one, SeatError)

    def test_none_stands_under_another(self):
        for one in ALL:
            for other in ALL:
                if one is not other:
                    with self.subTest(one=one.__name__, other=other.__name__):
                        self.assertFalse(issubclass(one, other))

    def test_they_are_nine(self):
        self.assertEqual(len(set(ALL)), 9)


class Objects(unittest.TestCase):
    def test_those_handed_a_text_are_raised_and_taken(self):
        for one in HANDED_A_TEXT:
            with self.subTest(one=one.__name__):
                with self.assertRaises(SeatError) as taken:
                    raise one("some words")
                self.assertIs(type(taken.exception), one)
                self.assertEqual(str(taken.exception), "some words")

    def test_full_has_its_paper(self):
        paper = ("each", 0, (("stuck", 1), ("each", 2, ())))
        error = Full(paper)
        self.assertIs(error.paper, paper)
        with self.assertRaises(Full) as taken:
            raise error
        self.assertIs(taken.exception.paper, paper)

    def test_full_objects_have_papers_of_their_own(self):
        one = Full(("stuck", 0))
        other = Full(("stuck", 1))
        self.assertEqual((one.paper, other.paper), (("stuck", 0), ("stuck", 1)))

    def test_too_great_has_many_and_most_in_this_order(self):
        for many, most in ((7, 6), (2001, 2000), (13 ** 30, 2000)):
            with self.subTest(many=many, most=most):
                error = TooGreat(many, most)
                self.assertEqual((error.many, error.most), (many, most))
                with self.assertRaises(TooGreat) as taken:
                    raise error
                self.assertEqual((taken.exception.many, taken.exception.most), (many, most))


if __name__ == "__main__":
    unittest.main()
