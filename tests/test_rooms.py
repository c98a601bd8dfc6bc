import itertools
import unittest

from besideseats import best, papers, rooms, trees
from besideseats.errors import NoSeating, SeatError, TooGreat
from besideseats.places import places_of
from besideseats.rooms import first_of_all, open_places, ways
from besideseats.seatings import apart
from trials import ABOVE_GROUPS, ABOVE_HALL, JUST_GROUPS, JUST_HALL
from trials import fasts_of, group, order_of, seatings_by_trial, small_cases

FAR = 10 ** 60 - 1

# All that takes fast, with anything between the groups and it left out.
WITH_FAST = {
    "ways": rooms.ways, "first_of_all": rooms.first_of_all, "paper_of": papers.paper_of,
    "best_of_all": best.best_of_all, "best_of_some": best.best_of_some, "best_worth": best.best_worth,
    "lets_by": lambda hall, groups, fast=None: papers.lets_by(hall, groups, ("stuck", 0), fast),
    "bounds": lambda hall, groups, fast=None: trees.bounds(hall, groups, 9, ("end",), fast), "tree_of": trees.tree_of,
}
BOUNDED = ("first_of_all", "paper_of", "best_of_all", "best_of_some", "best_worth", "tree_of")


class Ways(unittest.TestCase):
    def told(self, hall, groups, many, fast=None):
        with self.subTest(hall=hall, groups=groups, fast=fast):
            self.assertEqual(ways(hall, groups, fast), many)
            self.assertIs(type(ways(hall, groups, fast)), int)

    def test_no_groups(self):
        for hall in ((".",), ("#",), ("." * 12,) * 6):
            self.told(hall, (), 1)
            self.told(hall, (), 1, ())

    def test_groups_without_places(self):
        self.told(("#",), (group(),), 1)
        self.told(("..",), (group("a", 3), group("b", 1, 2)), 1)
        self.told(("..",), (group("a", 3), group("b")), 3)

    def test_by_hand(self):
        self.told((".",), (group(),), 2)
        self.told(("....",), (group("a", 2),), 4)
        self.told(("....", "...."), (group("a", 2), group("b", 1, 2), group("c")), 7 * 5 * 9)
        self.told((".=a#",), (group("a", 1, 1, 0, 0, (), "a"), group("b", 1, 1, 0, 0, (), "", 1)), 4 * 2)

    def test_gaps_count_for_nothing(self):
        self.told(("....",), (group("a", 1, 1, 6), group("b", 1, 1, 6)), 25)

    def test_fast_left_out_none_nobody_some_all(self):
        hall = ("....", "....")
        groups = (group("a", 2), group("b", 1, 2), group("c"))
        self.assertEqual(ways(hall, groups), 315)
        self.told(hall, groups, 315, None)
        self.told(hall, groups, 315, (None, None, None))
        self.told(hall, groups, 45, ((0, 0), None, None))
        self.told(hall, groups, 63, (None, (0, 3), None))
        self.told(hall, groups, 35, (None, None, (1, 1)))
        self.told(hall, groups, 9, ((0, 0), (0, 3), None))
        self.told(hall, groups, 1, ((0, 0), (0, 3), (1, 1)))

    def test_fast_takes_no_place_away_from_others(self):
        # The product is over places, open or not.
        self.told(("..",), (group("a"), group("b")), 3, ((0, 0), None))
        self.told(("..",), (group("a", 2), group("b")), 3, ((0, 0), None))

    def test_more_than_two_thousand_are_told(self):
        self.told(JUST_HALL, JUST_GROUPS, 2000)
        self.told(ABOVE_HALL, ABOVE_GROUPS, 2001)
        self.told(("." * 12,) * 6, tuple(group(name) for name in "abcdef"), 73 ** 6)
        self.told(("." * 12,) * 6, tuple(group(name) for name in "abcdef"), 73 ** 5, ((0, 0),) + (None,) * 5)

    def test_over_small_halls(self):
        for hall, groups in small_cases():
            for fast in fasts_of(hall, groups):
                many = 1
                for one, place in zip(groups, fast or (None,) * len(groups)):
                    many *= 1 if place is not None else len(places_of(hall, one)) + 1
                self.assertEqual(ways(hall, groups, fast), many)


class Fast(unittest.TestCase):
    def refused(self, hall, groups, fast):
        for name, asked in WITH_FAST.items():
            with self.subTest(name=name, hall=hall, fast=fast):
                with self.assertRaises(NoSeating) as caught:
                    asked(hall, groups, fast)
                self.assertEqual(type(caught.exception).__mro__, (NoSeating, SeatError) + ValueError.__mro__)
                with self.assertRaises(NoSeating):
                    asked(hall, groups, fast=fast)

    def test_a_place_that_does_not_fit(self):
        hall = ("..#.", "=ab.")
        for place in ((0, 1), (0, 2), (0, 3), (1, 0), (-1, 0), (0, -1), (0, -2), (2, 0), (0, 4), (FAR, 0), (0, -FAR)):
            self.refused(hall, (group("a", 2),), (place,))
            self.refused(hall, (group("a", 2), group("b")), (place, None))
            self.refused(hall, (group("b"), group("a", 2)), ((1, 3), place))
        self.refused(hall, (group("a", 2, 1, 0, 0, (), "a", 2),), ((1, 0),))

    def test_two_that_are_not_apart(self):
        hall = ("....", "....")
        self.refused(hall, (group("a", 2), group("b")), ((0, 0), (0, 1)))
        self.refused(hall, (group("a", 1, 1, 2), group("b")), ((0, 0), (0, 2)))
        self.refused(hall, (group("a"), group("b"), group("c", 1, 1, 2)), (None, (1, 1), (1, 3)))
        self.refused(hall, (group("a", 1, 2), group("b", 1, 2)), ((0, 2), (0, 2)))

    def test_ahead_of_too_great(self):
        many = tuple(group(name) for name in "abcdef")
        hall = ("." * 12,) * 6
        self.refused(hall, many, ((0, 0), (0, 0)) + (None,) * 4)
        self.refused(hall, many, ((6, 0),) + (None,) * 5)

    def test_one_that_keeps_is_not_refused(self):
        hall = ("....", "....")
        groups = (group("a", 1, 1, 2), group("b"))
        for name, asked in WITH_FAST.items():
            for fast in (None, (None, None), ((0, 0), None), (None, (1, 3)), ((0, 0), (0, 3)), ((0, 0), (1, 0))):
                with self.subTest(name=name, fast=fast):
                    asked(hall, groups, fast)

    def test_left_out_none_and_nobody_are_the_same(self):
        for hall, groups in small_cases():
            for name, asked in WITH_FAST.items():
                if name not in ("paper_of", "tree_of"):
                    answers = (asked(hall, groups), asked(hall, groups, None), asked(hall, groups, (None,) * len(groups)))
                    self.assertEqual(answers, (answers[0],) * 3)


class BeyondTheWays(unittest.TestCase):
    def refused(self, hall, groups, many, fast=None):
        for name in BOUNDED:
            with self.subTest(name=name, hall=hall, fast=fast):
                with self.assertRaises(TooGreat) as caught:
                    WITH_FAST[name](hall, groups, fast)
                self.assertEqual(type(caught.exception).__mro__, (TooGreat, SeatError) + ValueError.__mro__)
                self.assertEqual((caught.exception.many, caught.exception.most), (many, 2000))

    def test_just_two_thousand(self):
        self.assertEqual(ways(JUST_HALL, JUST_GROUPS), 2000)
        self.assertEqual(first_of_all(JUST_HALL, JUST_GROUPS), ((0, 0), (0, 11), (0, 1)))
        self.assertIsNone(papers.paper_of(JUST_HALL, JUST_GROUPS))
        # In row 1 ann is worth 2 more; bo leaves a seat between.
        self.assertEqual(best.best_of_all(JUST_HALL, JUST_GROUPS), ((1, 0), (0, 0), (0, 2)))
        self.assertEqual(best.best_of_some(JUST_HALL, JUST_GROUPS), ((1, 0), (0, 0), (0, 2)))
        self.assertEqual(best.best_worth(JUST_HALL, JUST_GROUPS), 18)
        self.assertIs(trees.bounds(JUST_HALL, JUST_GROUPS, 18, trees.tree_of(JUST_HALL, JUST_GROUPS)), True)

    def test_just_two_thousand_without_room(self):
        groups = (group("ann", 1, 1, 6), group("bo", 1, 1, 6), group("cy", 9, 1, 6), group("di", 12, 3))
        self.assertEqual(ways(JUST_HALL, groups), 2000)
        self.assertIsNone(first_of_all(JUST_HALL, groups))
        self.assertIsNone(best.best_of_all(JUST_HALL, groups))
        self.assertIs(papers.lets_by(JUST_HALL, groups, papers.paper_of(JUST_HALL, groups)), True)
        self.assertIs(trees.bounds(JUST_HALL, groups, 0, trees.tree_of(JUST_HALL, groups)), True)

    def test_just_above(self):
        self.refused(ABOVE_HALL, ABOVE_GROUPS, 2001)
        self.refused(ABOVE_HALL, ABOVE_GROUPS, 2001, (None,) * 3)

    def test_far_above(self):
        hall = ("." * 12,) * 6
        groups = tuple(group(name) for name in "abcdef")
        self.refused(hall, groups, 73 ** 6)
        self.refused(hall, groups, 73 ** 4, ((0, 0), None, (5, 11), None, None, None))

    def test_above_where_somebody_has_no_place(self):
        self.refused(ABOVE_HALL, ABOVE_GROUPS + (group("di", 12, 3),), 2001)

    def test_so_many_fast_that_it_is_answered(self):
        fast = ((1, 0), None, None)
        self.assertEqual(ways(ABOVE_HALL, ABOVE_GROUPS, fast), 69)
        self.assertEqual(first_of_all(ABOVE_HALL, ABOVE_GROUPS, fast), ((1, 0), (1, 1), (0, 0)))
        self.assertIsNone(papers.paper_of(ABOVE_HALL, ABOVE_GROUPS, fast))
        self.assertEqual(best.best_of_all(ABOVE_HALL, ABOVE_GROUPS, fast), ((1, 0), (1, 1), (0, 0)))
        self.assertEqual(best.best_of_some(ABOVE_HALL, ABOVE_GROUPS, fast), ((1, 0), (1, 1), (0, 0)))
        self.assertEqual(best.best_worth(ABOVE_HALL, ABOVE_GROUPS, fast), 16)
        tree = trees.tree_of(ABOVE_HALL, ABOVE_GROUPS, fast)
        self.assertIs(trees.bounds(ABOVE_HALL, ABOVE_GROUPS, 16, tree, fast), True)
        groups = tuple(group(name) for name in "abcdef")
        all_fast = tuple((k, k) for k in range(6))
        self.assertEqual(first_of_all(("." * 12,) * 6, groups, all_fast), all_fast)

    def test_never_refused(self):
        hall = ("." * 12,) * 6
        groups = tuple(group(name) for name in "abcde") + (group("f", 12, 3, 6, 0, (), "", 1),)
        self.assertEqual(ways(hall, groups), 73 ** 5)
        self.assertIs(papers.lets_by(hall, groups, ("stuck", 5)), True)
        self.assertIs(papers.lets_by(hall, groups, ("stuck", 0)), False)
        self.assertIs(trees.bounds(hall, groups, 0, ("end",)), True)
        self.assertIs(trees.bounds(hall, groups, -1, ("end",)), False)
        self.assertIs(trees.bounds(hall, groups, 0, ("each", 5, (("end",),))), True)
        self.assertIs(trees.bounds(hall, groups, 0, None), False)
        self.assertEqual(open_places(hall, groups, (None,) * 6, 5), ())
        self.assertEqual(open_places(hall, groups, (None,) * 6, 0), tuple(itertools.product(range(6), range(12))))


class OpenPlaces(unittest.TestCase):
    def told(self, hall, groups, seating, k, places):
        with self.subTest(hall=hall, groups=groups, seating=seating, k=k):
            self.assertEqual(open_places(hall, groups, seating, k), places)
            self.assertIs(type(open_places(hall, groups, seating, k)), tuple)

    def test_beside_nobody_all_places(self):
        hall = ("..#..", "##...")
        one = group("bo", 2, 1, 6)
        self.told(hall, (one,), (None,), 0, ((0, 0), (0, 3), (1, 2), (1, 3)))
        self.told(hall, (group("a"), one), (None, None), 1, ((0, 0), (0, 3), (1, 2), (1, 3)))
        self.told(hall, (group("a", 6), one), (None, None), 0, ())

    def test_beside_others_those_that_are_apart(self):
        hall = ("........", "........")
        one, other = group("a", 2, 1, 1), group("b", 1, 1, 2)
        self.told(hall, (one, other), (None, (0, 3)), 0,
                  ((0, 6),) + tuple((1, column) for column in range(7)))
        self.told(hall, (one, other), ((1, 0), None), 1,
                  tuple((0, column) for column in range(8)) + ((1, 4), (1, 5), (1, 6), (1, 7)))
        self.told(("....",), (group("a"), group("b"), group("c")), ((0, 1), None, (0, 3)), 1, ((0, 0), (0, 2)))
        self.told(("..",), (group("a"), group("b"), group("c")), ((0, 1), None, (0, 0)), 1, ())

    def test_its_own_place_counts_for_nothing(self):
        hall = ("....",)
        self.told(hall, (group("a", 2, 1, 6),), ((0, 1),), 0, ((0, 0), (0, 1), (0, 2)))
        self.told(hall, (group("a"), group("b")), ((0, 1), (0, 3)), 0, ((0, 0), (0, 1), (0, 2)))
        self.told(hall, (group("a"), group("b")), ((0, 1), (0, 3)), 1, ((0, 0), (0, 2), (0, 3)))

    def test_over_small_halls(self):
        for hall, groups in small_cases():
            for seating in seatings_by_trial(hall, groups, None, True)[::5]:
                for k, one in enumerate(groups):
                    others = [j for j in range(len(groups)) if j != k and seating[j] is not None]
                    places = [place for place in places_of(hall, one)
                              if all(apart(groups[j], seating[j], one, place) for j in others)]
                    self.assertEqual(open_places(hall, groups, seating, k), tuple(sorted(places)))


class FirstOfAll(unittest.TestCase):
    def told(self, hall, groups, seating, fast=None):
        with self.subTest(hall=hall, groups=groups, fast=fast):
            self.assertEqual(first_of_all(hall, groups, fast), seating)
            self.assertEqual(first_of_all(hall, groups, fast=fast), seating)

    def test_no_groups(self):
        self.told(("#",), (), ())
        self.told(("..",), (), (), ())

    def test_by_hand(self):
        self.told((".",), (group(),), ((0, 0),))
        self.told(("#",), (group(),), None)
        self.told(("..",), (group("a"), group("b")), ((0, 0), (0, 1)))
        self.told(("..",), (group("a", 1, 1, 1), group("b")), None)
        self.told(("..", "#."), (group("a"), group("b", 1, 2)), ((0, 0), (0, 1)))
        self.told(("..", ".#"), (group("a"), group("b", 1, 2)), ((0, 1), (0, 0)))
        self.told(("...",), (group("a"), group("b", 1, 1, 1)), ((0, 0), (0, 2)))

    def test_worth_counts_for_nothing(self):
        self.told(("..", ".."), (group("a", 1, 1, 0, 1, ((1, 9),)),), ((0, 0),))

    def test_fast_ones(self):
        hall = ("...",)
        groups = (group("a"), group("b"))
        self.told(hall, groups, ((0, 2), (0, 0)), ((0, 2), None))
        self.told(hall, groups, ((0, 1), (0, 0)), (None, (0, 0)))
        self.told(hall, groups, ((0, 2), (0, 1)), ((0, 2), (0, 1)))
        self.told(hall, (group("a", 2), group("b")), None, (None, (0, 1)))
        self.told(hall, (group("a"), group("b", 2)), None, ((0, 1), None))

    def test_over_small_halls(self):
        found = [0, 0]
        for hall, groups in small_cases():
            for fast in fasts_of(hall, groups):
                seatings = seatings_by_trial(hall, groups, fast, False)
                answer = first_of_all(hall, groups, fast)
                if answer != (seatings[0] if seatings else None):
                    self.fail((hall, groups, fast, answer))
                found[answer is None] += 1
        self.assertGreater(min(found), 50)

    def test_rising_place_by_place(self):
        hall, groups = ("....",), (group("a"), group("b", 2))
        seatings = seatings_by_trial(hall, groups, None, True)
        self.assertEqual(seatings, sorted(seatings, key=order_of))
        self.assertEqual(seatings[-1], (None, None))
        self.told(hall, groups, seatings[0])


class Unchanged(unittest.TestCase):
    def test_asked_twice_the_same_comes(self):
        hall, groups, fast = ("....", "...."), (group("a", 2, 1, 1), group("b")), (None, (0, 3))
        first = [(ways(hall, groups, fast), open_places(hall, groups, fast, 0), first_of_all(hall, groups, fast))
                 for time in range(3)]
        self.assertEqual(first, [(7, ((0, 0), (1, 0), (1, 1), (1, 2)), ((0, 0), (0, 3)))] * 3)
        self.assertEqual((hall, fast), (("....", "...."), (None, (0, 3))))
        self.assertEqual(groups, (group("a", 2, 1, 1), group("b")))


if __name__ == "__main__":
    unittest.main()
