import itertools
import unittest

from besideseats.best import best_worth
from besideseats.groups import is_group, worth_in
from besideseats.halls import is_hall
from besideseats.moves import alike, exchanged, mirrored, mirrored_seating
from besideseats.moves import turned, turned_groups, turned_seating
from besideseats.places import places_of, seats_of
from besideseats.seatings import keeps, worth_of
from trials import GUESTS, HALLS, group, seatings_by_trial, small_cases

SIGNS_APART = ("ab.=#c", "d.....", "=#efgh")


class Halls(unittest.TestCase):
    def test_mirrored_by_hand(self):
        self.assertEqual(mirrored((".",)), (".",))
        self.assertEqual(mirrored((".=#a",)), ("a#=.",))
        self.assertEqual(mirrored(SIGNS_APART), ("c#=.ba", ".....d", "hgfe#="))

    def test_turned_by_hand(self):
        self.assertEqual(turned((".",)), (".",))
        self.assertEqual(turned((".=#a",)), (".=#a",))
        self.assertEqual(turned(SIGNS_APART), ("=#efgh", "d.....", "ab.=#c"))

    def test_done_twice_they_give_the_hall_back(self):
        for hall in HALLS + (SIGNS_APART, ("." * 11 + "#",) * 5 + ("=" * 12,)):
            self.assertEqual(mirrored(mirrored(hall)), hall)
            self.assertEqual(turned(turned(hall)), hall)
            self.assertEqual(mirrored(turned(hall)), turned(mirrored(hall)))
            self.assertIs(is_hall(mirrored(hall)), True)
            self.assertIs(is_hall(turned(hall)), True)


class Seatings(unittest.TestCase):
    def told(self, hall, groups, seating, other_side, behind):
        with self.subTest(hall=hall, groups=groups, seating=seating):
            self.assertEqual(mirrored_seating(hall, groups, seating), other_side)
            self.assertEqual(turned_seating(hall, groups, seating), behind)

    def test_by_hand(self):
        hall = ("....",) * 3
        self.told(hall, (), (), (), ())
        self.told(hall, (group(),), ((0, 0),), ((0, 3),), ((2, 0),))
        self.told(hall, (group(),), ((2, 1),), ((2, 2),), ((0, 1),))
        self.told(hall, (group("a", 3),), ((1, 0),), ((1, 1),), ((1, 0),))
        self.told(hall, (group("a", 1, 2),), ((0, 1),), ((0, 2),), ((1, 1),))
        self.told(hall, (group("a", 4, 3),), ((0, 0),), ((0, 0),), ((0, 0),))
        self.told(hall, (group("a", 2), group("b", 1, 2)), ((0, 0), (1, 3)), ((0, 2), (1, 0)), ((2, 0), (0, 3)))

    def test_none_stays_none(self):
        hall = ("....",) * 3
        self.told(hall, (group("a"),), (None,), (None,), (None,))
        self.told(hall, (group("a"), group("b", 2), group("c")), (None, (0, 0), None), (None, (0, 2), None), (None, (2, 0), None))

    def test_the_same_seats_from_the_other_side_and_from_behind(self):
        for hall in HALLS:
            last_row, last_column = len(hall) - 1, len(hall[0]) - 1
            for one in GUESTS:
                for place in places_of(hall, one):
                    (side,) = mirrored_seating(hall, (one,), (place,))
                    (behind,) = turned_seating(hall, (one,), (place,))
                    seats = seats_of(one, place)
                    self.assertEqual(seats_of(one, side), tuple(sorted((r, last_column - c) for r, c in seats)))
                    self.assertEqual(seats_of(one, behind), tuple(sorted((last_row - r, c) for r, c in seats)))

    def test_what_keeps_keeps_and_is_worth_the_same(self):
        many = 0
        for hall, groups in small_cases():
            for seating in seatings_by_trial(hall, groups, None, True)[::4]:
                side, behind = mirrored_seating(hall, groups, seating), turned_seating(hall, groups, seating)
                others = turned_groups(hall, groups)
                self.assertIs(keeps(mirrored(hall), groups, side), True, (hall, groups, seating))
                self.assertIs(keeps(turned(hall), others, behind), True, (hall, groups, seating))
                self.assertEqual(worth_of(groups, side), worth_of(groups, seating))
                self.assertEqual(worth_of(others, behind), worth_of(groups, seating), (hall, groups, seating))
                self.assertEqual(mirrored_seating(mirrored(hall), groups, side), seating)
                self.assertEqual(turned_seating(turned(hall), others, behind), seating)
                many += any(seating)
        self.assertGreater(many, 100)


class Groups(unittest.TestCase):
    def told(self, hall, depth, wishes, answer):
        one = group("a", 2, depth, 1, 5, wishes, "k", 1)
        with self.subTest(hall=hall, depth=depth, wishes=wishes):
            self.assertEqual(turned_groups(hall, (one,)), (group("a", 2, depth, 1, 5, answer, "k", 1),))
            self.assertIs(is_group(turned_groups(hall, (one,))[0]), True)

    def test_no_groups_and_no_wishes(self):
        self.assertEqual(turned_groups((".",), ()), ())
        self.told((".",), 1, (), ())
        self.told(("..",) * 6, 3, (), ())

    def test_a_wish_for_the_row_that_is_first_then(self):
        hall = ("..",) * 6
        for row in range(6):
            self.told(hall, 1, ((row, 7),), ((5 - row, 7),))
        for row in range(5):
            self.told(hall, 2, ((row, 7),), ((4 - row, 7),))
        for row in range(4):
            self.told(hall, 3, ((row, 7),), ((3 - row, 7),))
        self.told(("..",), 1, ((0, 7),), ((0, 7),))

    def test_wishes_rise(self):
        self.told(("..",) * 6, 1, tuple((row, 10 + row) for row in range(6)), tuple((row, 15 - row) for row in range(6)))
        self.told(("..",) * 4, 2, ((0, 9), (1, 3), (2, 5)), ((0, 5), (1, 3), (2, 9)))
        self.told(("..",) * 4, 1, ((0, 1), (3, 1)), ((0, 1), (3, 1)))

    def test_a_wish_for_a_row_where_it_cannot_sit_is_left_out(self):
        self.told(("..",) * 3, 1, ((2, 4), (3, 5), (5, 6)), ((0, 4),))
        self.told(("..",) * 3, 2, ((1, 4), (2, 5), (3, 6)), ((0, 4),))
        self.told(("..",) * 3, 3, ((0, 4), (1, 5), (2, 6)), ((0, 4),))
        self.told(("..",) * 2, 3, ((0, 4), (1, 5)), ())
        self.told(("..",), 2, ((0, 4),), ())

    def test_a_row_where_seats_alone_are_missing_is_turned(self):
        # Rows enough are behind it; that its seats are for nobody counts for nothing.
        self.told(("..", "##"), 1, ((1, 4),), ((0, 4),))

    def test_worth_in_each_row_where_it_may_sit(self):
        for rows, depth in itertools.product(range(1, 7), (1, 2, 3)):
            hall = ("..",) * rows
            for many in range(4):
                for chosen in itertools.combinations(range(6), many):
                    one = group("a", 1, depth, 0, 2, tuple((row, 10 + row) for row in chosen))
                    (other,) = turned_groups(hall, (one,))
                    self.assertIs(is_group(other), True)
                    for row in range(rows - depth + 1):
                        self.assertEqual(worth_in(other, rows - depth - row), worth_in(one, row))
                    # Turned once more it has all its wishes but those that were left out.
                    kept = tuple(wish for wish in one[7] if wish[0] <= rows - depth)
                    self.assertEqual(turned_groups(turned(hall), (other,)), (one[:7] + (kept,),))

    def test_each_by_its_own_depth(self):
        groups = (group("a", 1, 1, 0, 0, ((0, 1),)), group("b", 1, 3, 0, 0, ((0, 1),)), group("c", 1, 2, 0, 0, ((1, 1),)))
        self.assertEqual(
            turned_groups(("..",) * 4, groups),
            (group("a", 1, 1, 0, 0, ((3, 1),)), group("b", 1, 3, 0, 0, ((1, 1),)), group("c", 1, 2, 0, 0, ((1, 1),))),
        )

    def test_the_best_is_worth_the_same(self):
        for hall, groups in small_cases():
            most = best_worth(hall, groups)
            self.assertEqual(best_worth(mirrored(hall), groups), most)
            self.assertEqual(best_worth(turned(hall), turned_groups(hall, groups)), most)


class Alike(unittest.TestCase):
    ONE = ("ann", 3, 2, "a", 1, 2, 5, ((0, 7), (2, 9)))

    def told(self, one, other, answer):
        with self.subTest(one=one, other=other):
            self.assertIs(alike(one, other), answer)
            self.assertIs(alike(other, one), answer)

    def test_all_but_the_name_the_same(self):
        self.told(self.ONE, self.ONE, True)
        self.told(self.ONE, ("bo",) + self.ONE[1:], True)
        self.told(group("a"), group("b"), True)

    def test_one_part_unlike(self):
        for k, part in ((1, 4), (2, 3), (3, ""), (3, "b"), (4, 0), (5, 1), (6, 6), (7, ())):
            for name in ("ann", "bo"):
                self.told(self.ONE, (name,) + self.ONE[1:k] + (part,) + self.ONE[k + 1:], False)
        for wishes in (((0, 7),), ((2, 9),), ((0, 7), (2, 8)), ((0, 7), (3, 9)), ((0, 9), (2, 7))):
            self.told(self.ONE, ("bo",) + self.ONE[1:7] + (wishes,), False)


class Exchanged(unittest.TestCase):
    def told(self, seating, a, b, answer):
        with self.subTest(seating=seating, a=a, b=b):
            self.assertEqual(exchanged(seating, a, b), answer)
            self.assertEqual(exchanged(seating, b, a), answer)
            self.assertIs(type(exchanged(seating, a, b)), tuple)

    def test_by_hand(self):
        seating = ((0, 0), None, (1, 2), None)
        self.told(seating, 0, 2, ((1, 2), None, (0, 0), None))
        self.told(seating, 0, 1, (None, (0, 0), (1, 2), None))
        self.told(seating, 1, 2, ((0, 0), (1, 2), None, None))
        self.told(seating, 3, 0, (None, None, (1, 2), (0, 0)))
        self.told(seating, 1, 3, seating)

    def test_a_and_b_the_same(self):
        seating = ((0, 0), None, (1, 2))
        for k in range(3):
            self.told(seating, k, k, seating)
        self.told((None,), 0, 0, (None,))

    def test_done_twice_it_is_the_same_again(self):
        seating = tuple((0, k) for k in range(5)) + (None,)
        for a, b in itertools.product(range(6), repeat=2):
            once = exchanged(seating, a, b)
            self.assertEqual((once[a], once[b]), (seating[b], seating[a]))
            self.assertEqual([once[k] for k in range(6) if k not in (a, b)], [seating[k] for k in range(6) if k not in (a, b)])
            self.assertEqual(exchanged(once, a, b), seating)

    def test_groups_that_are_alike_may_be_exchanged(self):
        for hall in HALLS:
            for one, third in itertools.permutations(GUESTS[:5], 2):
                groups = (one, third, ("zoe",) + one[1:])
                for seating in seatings_by_trial(hall, groups, None, True)[::3]:
                    self.assertIs(keeps(hall, groups, exchanged(seating, 0, 2)), True)
                    self.assertEqual(worth_of(groups, exchanged(seating, 0, 2)), worth_of(groups, seating))


class Unchanged(unittest.TestCase):
    def test_asked_twice_the_same_comes(self):
        hall, groups, seating = (".=", "#a"), (group("a", 1, 1, 0, 0, ((0, 3), (1, 2))), group("b")), ((0, 1), None)
        answers = [
            (mirrored(hall), turned(hall), mirrored_seating(hall, groups, seating), turned_seating(hall, groups, seating),
             turned_groups(hall, groups), alike(groups[0], groups[1]), exchanged(seating, 0, 1)) for time in range(3)
        ]
        told = (("=.", "a#"), ("#a", ".="), ((0, 0), None), ((1, 1), None),
                (group("a", 1, 1, 0, 0, ((0, 2), (1, 3))), group("b")), False, (None, (0, 1)))
        self.assertEqual(answers, [told] * 3)
        self.assertEqual((hall, seating), ((".=", "#a"), ((0, 1), None)))
        self.assertEqual(groups, (group("a", 1, 1, 0, 0, ((0, 3), (1, 2))), group("b")))


if __name__ == "__main__":
    unittest.main()
