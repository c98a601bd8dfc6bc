import itertools
import unittest

from besideseats.holes import holes, users
from besideseats.places import places_of, seats_of
from besideseats.seatings import apart, free_seats, keeps
from trials import GUESTS, HALLS, group, seatings_by_trial


def users_by_trial(hall, groups, seating, coming, seat):
    # Every spot of the hall for everyone that comes, held against each that sits.
    found = []
    for k, one in enumerate(coming):
        for place in itertools.product(range(len(hall)), range(len(hall[0]))):
            clear = all(apart(other, there, one, place) for other, there in zip(groups, seating) if there is not None)
            if seat in seats_of(one, place) and place in places_of(hall, one) and clear:
                found.append((k, place))
    return tuple(found)


def seats_in(hall):
    return list(itertools.product(range(len(hall)), range(len(hall[0]))))


class Users(unittest.TestCase):
    def told(self, hall, groups, seating, coming, seat, answer):
        with self.subTest(hall=hall, groups=groups, seating=seating, coming=coming, seat=seat):
            self.assertTrue(keeps(hall, groups, seating))
            self.assertEqual(users(hall, groups, seating, coming, seat), answer)
            self.assertIs(type(users(hall, groups, seating, coming, seat)), tuple)

    def test_nobody_coming(self):
        for seat in seats_in((".=#a",)):
            self.told((".=#a",), (), (), (), seat, ())

    def test_one_that_fits_nowhere(self):
        for seat in seats_in(("..", "..")):
            self.told(("..", ".."), (), (), (group("a", 3), group("b", 1, 3)), seat, ())

    def test_by_hand(self):
        hall = ("....",)
        self.told(hall, (), (), (group("a", 2),), (0, 0), ((0, (0, 0)),))
        self.told(hall, (), (), (group("a", 2),), (0, 1), ((0, (0, 0)), (0, (0, 1))))
        self.told(hall, (), (), (group("a", 2),), (0, 3), ((0, (0, 2)),))
        self.told(hall, (), (), (group("a", 2), group("b", 3)), (0, 2), ((0, (0, 1)), (0, (0, 2)), (1, (0, 0)), (1, (0, 1))))
        self.told(hall, (), (), (group("b", 3), group("a", 2)), (0, 0), ((0, (0, 0)), (1, (0, 0))))
        self.told(("...", "..."), (), (), (group("a", 2, 2),), (1, 1), ((0, (0, 0)), (0, (0, 1))))
        self.told(("...", "...", "..."), (), (), (group("a", 1, 2),), (1, 1), ((0, (0, 1)), (0, (1, 1))))

    def test_beside_those_that_sit(self):
        hall = (".....", ".....")
        sits = (group("x", 1, 1, 1), group("y"))
        self.told(hall, sits, ((0, 1), None), (group("a"),), (0, 3), ((0, (0, 3)),))
        self.told(hall, sits, ((0, 1), None), (group("a"),), (0, 2), ())
        self.told(hall, sits, ((0, 1), None), (group("a"),), (0, 0), ())
        self.told(hall, sits, ((0, 1), None), (group("a"),), (1, 2), ((0, (1, 2)),))
        self.told(hall, sits, ((0, 1), None), (group("a", 1, 2),), (1, 2), ())
        self.told(hall, sits, ((0, 1), None), (group("a", 1, 1, 2),), (0, 3), ())
        self.told(hall, sits, ((0, 1), None), (group("a", 1, 1, 2),), (0, 4), ((0, (0, 4)),))
        self.told(hall, sits, ((0, 1), (0, 4)), (group("a", 1, 1, 0),), (0, 3), ((0, (0, 3)),))
        self.told(hall, sits, ((0, 1), (0, 4)), (group("a", 1, 1, 1),), (0, 3), ())

    def test_a_seat_that_is_taken_and_one_for_nobody(self):
        hall = (".#..",)
        self.told(hall, (group("x"),), ((0, 2),), (group("a"), group("b", 2)), (0, 2), ())
        self.told(hall, (group("x"),), ((0, 2),), (group("a"), group("b", 2)), (0, 1), ())
        self.told(hall, (group("x"),), ((0, 2),), (group("a"), group("b", 2)), (0, 3), ((0, (0, 3)),))
        self.told(hall, (), (), (group("a"), group("b", 2)), (0, 1), ())

    def test_kinds_and_wide(self):
        hall = ("a=.b",)
        coming = (group("a", 1, 1, 0, 0, (), "a"), group("b", 2, 1, 0, 0, (), "", 1), group("c"))
        self.told(hall, (), (), coming, (0, 0), ((0, (0, 0)),))
        self.told(hall, (), (), coming, (0, 1), ((0, (0, 1)), (1, (0, 1)), (2, (0, 1))))
        self.told(hall, (), (), coming, (0, 2), ((0, (0, 2)), (1, (0, 1)), (2, (0, 2))))
        self.told(hall, (), (), coming, (0, 3), ())

    def test_coming_of_any_names(self):
        # Names that sit, and the same ones twice, count for nothing.
        sits = (group("x"),)
        self.told(("...",), sits, ((0, 0),), (group("x"), group("x")), (0, 1), ((0, (0, 1)), (1, (0, 1))))

    def test_those_that_come_do_not_hinder_one_another(self):
        coming = tuple(group(name, 2, 1, 6) for name in "abcdef")
        self.told(("..",), (), (), coming, (0, 0), tuple((k, (0, 0)) for k in range(6)))


class Holes(unittest.TestCase):
    def told(self, hall, groups, seating, coming, answer):
        with self.subTest(hall=hall, groups=groups, seating=seating, coming=coming):
            self.assertTrue(keeps(hall, groups, seating))
            self.assertEqual(holes(hall, groups, seating, coming), answer)
            self.assertIs(type(holes(hall, groups, seating, coming)), tuple)

    def test_nobody_coming_all_free_seats(self):
        self.told(("#",), (), (), (), ())
        self.told((".=#a", "#..b"), (), (), (), ((0, 0), (0, 1), (0, 3), (1, 1), (1, 2), (1, 3)))
        self.told(("...", ".#."), (group("x", 2),), ((0, 1),), (), ((0, 0), (1, 0), (1, 2)))
        self.told(("." * 12,) * 6, (), (), (), tuple(seats_in(("." * 12,) * 6)))

    def test_one_that_fits_nowhere(self):
        self.told(("..", "#."), (), (), (group("a", 3),), ((0, 0), (0, 1), (1, 1)))

    def test_by_hand(self):
        self.told(("....",), (), (), (group("a"),), ())
        self.told((".#..",), (), (), (group("a", 2),), ((0, 0),))
        self.told((".#..", "..#."), (), (), (group("a", 1, 2),), ((0, 2), (1, 1)))
        self.told((".#..", "..#."), (), (), (group("a", 1, 2), group("b", 2)), ())
        self.told(("a.b=",), (), (), (group("a", 1, 1, 0, 0, (), "b"),), ((0, 0),))
        self.told(("a.b=",), (), (), (group("a", 1, 1, 0, 0, (), "", 1),), ((0, 0), (0, 1), (0, 2)))
        # A seat of one kind that nobody who comes has is a hole.
        self.told(("z.",), (), (), (group("a"),), ((0, 0),))

    def test_gaps_beside_those_that_sit(self):
        hall = (".......",)
        sits = (group("x", 1, 1, 2),)
        self.told(hall, sits, ((0, 2),), (group("a"),), ((0, 0), (0, 1), (0, 3), (0, 4)))
        self.told(hall, sits, ((0, 2),), (group("a", 1, 1, 3),), ((0, 0), (0, 1), (0, 3), (0, 4), (0, 5)))
        self.told(hall, (group("x"),), ((0, 2),), (group("a", 2, 1, 1),), ((0, 0), (0, 1), (0, 3)))
        self.told(hall, (group("x"),), ((0, 2),), (group("a", 2, 1, 1), group("b")), ())
        self.told(hall, (group("x"),), (None,), (group("a", 7),), ())
        self.told(hall, (group("x"),), ((0, 6),), (group("a", 7),), tuple((0, column) for column in range(6)))

    def test_over_small_halls(self):
        many = 0
        for hall in HALLS:
            for groups, coming in itertools.product(((), GUESTS[:2], GUESTS[3:6:2]), (GUESTS[1:2], GUESTS[2:5], GUESTS)):
                coming = coming[:6]
                for seating in seatings_by_trial(hall, groups, None, True)[::3]:
                    found = holes(hall, groups, seating, coming)
                    for seat in seats_in(hall):
                        told = users_by_trial(hall, groups, seating, coming, seat)
                        self.assertEqual(users(hall, groups, seating, coming, seat), told)
                        self.assertEqual(told, tuple(sorted(told)))
                        self.assertIs(seat in found, seat in free_seats(hall, groups, seating) and not told)
                    self.assertEqual(found, tuple(sorted(set(found))))
                    many += len(found)
        self.assertGreater(many, 50)

    def test_a_hole_stays_one_whoever_comes(self):
        moved = 0
        for hall in HALLS:
            for groups, coming in itertools.product(((), GUESTS[:1]), (GUESTS[1:4], GUESTS[3:6])):
                for seating in seatings_by_trial(hall, groups, None, True):
                    before = set(holes(hall, groups, seating, coming))
                    found = {use for seat in seats_in(hall) for use in users(hall, groups, seating, coming, seat)}
                    for k, place in found:
                        after = (groups + (coming[k],), seating + (place,))
                        self.assertIs(keeps(hall, after[0], after[1]), True)
                        self.assertLessEqual(before, set(holes(hall, after[0], after[1], coming)))
                        moved += 1
        self.assertGreater(moved, 50)


class Unchanged(unittest.TestCase):
    def test_asked_twice_the_same_comes(self):
        hall, groups, seating, coming = ("....",), (group("x"),), ((0, 1),), (group("a", 2),)
        answers = [(users(hall, groups, seating, coming, (0, 2)), holes(hall, groups, seating, coming)) for time in range(3)]
        self.assertEqual(answers, [(((0, (0, 2)),), ((0, 0),))] * 3)
        self.assertEqual((hall, groups, seating, coming), (("....",), (group("x"),), ((0, 1),), (group("a", 2),)))


if __name__ == "__main__":
    unittest.main()
