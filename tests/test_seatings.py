import itertools
import unittest

from besideseats.groups import worth_in
from besideseats.places import fits, places_of, seats_of
from besideseats.seatings import apart, free_seats, keeps, worth_of

FAR = 10 ** 60 - 1
SIXTY = 10 ** 60 - 1


def group(width=1, depth=1, gap=0, name="bo", kind="", wide=0, worth=0, wishes=()):
    return (name, width, depth, kind, wide, gap, worth, wishes)


def apart_as_told(one, here, other, there):
    # Row by row and column by column, with no sums of columns and widths.
    rows = {here[0] + k for k in range(one[2])} & {there[0] + k for k in range(other[2])}
    mine = [here[1] + k for k in range(one[1])]
    theirs = [there[1] + k for k in range(other[1])]
    between = max(theirs[0] - mine[-1], mine[0] - theirs[-1]) - 1
    return not rows or (between >= 0 and between >= one[5] and between >= other[5])


class Apart(unittest.TestCase):
    def told(self, one, here, other, there, answer):
        with self.subTest(one=one, here=here, other=other, there=there):
            self.assertIs(apart(one, here, other, there), answer)
            self.assertIs(apart(other, there, one, here), answer)

    def test_rows_that_just_meet_and_just_do_not(self):
        for one_depth, other_depth in itertools.product((1, 2, 3), repeat=2):
            one = group(2, one_depth)
            other = group(2, other_depth)
            for row in range(-4, 5):
                self.told(one, (0, 0), other, (row, 0), row >= one_depth or row <= -other_depth)

    def test_gap_counts_for_nothing_in_other_rows(self):
        self.told(group(12, 1, 6), (0, 0), group(12, 1, 6), (1, 0), True)
        self.told(group(12, 3, 6), (0, 0), group(12, 1, 6), (3, 5), True)
        self.told(group(12, 3, 6), (0, 0), group(12, 1, 6), (2, 17), False)

    def test_just_as_many_columns_as_the_greater_gap(self):
        for one_gap, other_gap in itertools.product(range(7), repeat=2):
            gap = max(one_gap, other_gap)
            for one_width, other_width in ((1, 1), (3, 1), (1, 4), (12, 12)):
                one = group(one_width, 1, one_gap)
                other = group(other_width, 1, other_gap)
                self.told(one, (0, 5), other, (0, 5 + one_width + gap), True)
                self.told(one, (0, 5), other, (0, 5 + one_width + gap - 1), False)
                self.told(one, (0, 5), other, (0, 5 - other_width - gap), True)
                self.told(one, (0, 5), other, (0, 5 - other_width - gap + 1), False)

    def test_the_same_place(self):
        for place in ((0, 0), (5, 11), (-3, -4), (FAR, -FAR)):
            self.told(group(), place, group(), place, False)
            self.told(group(3, 2, 1), place, group(1, 1, 0), place, False)

    def test_one_within_the_other(self):
        self.told(group(12, 1), (0, 0), group(2, 1), (0, 5), False)
        self.told(group(1, 3), (0, 0), group(1, 1), (1, 0), False)

    def test_below_nought_and_far_away(self):
        for row, column in ((-1, -1), (-9, 3), (4, -20), (FAR, FAR), (-FAR, -FAR), (FAR, -FAR)):
            one = group(3, 2, 1)
            other = group(2, 1, 2)
            self.told(one, (row, column), other, (row, column + 5), True)
            self.told(one, (row, column), other, (row, column + 4), False)
            self.told(one, (row, column), other, (row + 1, column - 4), True)
            self.told(one, (row, column), other, (row + 1, column - 3), False)
            self.told(one, (row, column), other, (row + 2, column), True)
            self.told(one, (row, column), other, (row - 1, column), True)
        self.told(group(), (0, FAR), group(), (0, -FAR), True)
        self.told(group(), (FAR, 0), group(), (-FAR, 0), True)

    def test_all_spots_near_one_another(self):
        ones = [group(width, depth, gap) for width in (1, 2, 5) for depth in (1, 2, 3) for gap in (0, 1, 3)]
        for one, other in itertools.product(ones, repeat=2):
            for row, column in itertools.product(range(-4, 5), range(-9, 10)):
                here, there = (1, 2), (1 + row, 2 + column)
                if apart(one, here, other, there) is not apart_as_told(one, here, other, there):
                    self.fail((one, here, other, there))

    def test_kinds_and_wide_count_for_nothing(self):
        self.told(group(1, 1, 0, "bo", "a", 1, 5, ((0, 1),)), (0, 0), group(1, 1, 0, "cy", "b"), (0, 1), True)
        self.told(group(1, 1, 0, "bo", "a", 1, 5, ((0, 1),)), (0, 0), group(1, 1, 0, "cy", "b"), (0, 0), False)


class Keeps(unittest.TestCase):
    def told(self, hall, groups, seating, answer):
        with self.subTest(hall=hall, groups=groups, seating=seating):
            self.assertIs(keeps(hall, groups, seating), answer)
            self.assertIs(keeps(hall, groups, seating), answer)

    def test_no_groups(self):
        for hall in ((".",), ("#",), ("." * 12,) * 6):
            self.told(hall, (), (), True)

    def test_nobody_seated(self):
        for many in range(1, 7):
            groups = tuple(group(12, 3, 6, name) for name in "abcdef"[:many])
            self.told(("#",), groups, (None,) * many, True)

    def test_a_place_that_does_not_fit(self):
        hall = ("..#.", "=ab.")
        self.told(hall, (group(2),), ((0, 0),), True)
        for place in ((0, 1), (0, 2), (0, 3), (1, 0), (1, 2), (-1, 0), (0, -1), (2, 0), (FAR, 0), (0, -FAR)):
            self.told(hall, (group(2),), (place,), False)
            self.told(hall, (group(2), group(1, 1, 0, "cy")), (place, None), False)
            self.told(hall, (group(1, 1, 0, "cy"), group(2)), (None, place), False)
        self.told(hall, (group(2, 1, 0, "bo", "a"),), ((1, 0),), True)
        self.told(hall, (group(2, 1, 0, "bo", "a", 1),), ((1, 0),), True)
        self.told(hall, (group(2, 1, 0, "bo", "a", 2),), ((1, 0),), False)

    def test_below_nought_nobody_sits(self):
        self.told(("..",), (group(),), ((0, -1),), False)
        self.told(("..",), (group(),), ((-1, 0),), False)

    def test_two_that_are_not_apart(self):
        hall = ("........",) * 2
        one, other = group(2, 1, 1), group(2, 2, 2, "cy")
        self.told(hall, (one, other), ((0, 0), (0, 4)), True)
        self.told(hall, (one, other), ((0, 0), (0, 3)), False)
        self.told(hall, (other, one), ((0, 0), (1, 4)), True)
        self.told(hall, (other, one), ((0, 0), (1, 3)), False)
        self.told(hall, (one, other), ((0, 0), (0, 0)), False)
        self.told(hall, (one, other), ((0, 0), None), True)
        self.told(hall, (one, other), (None, (0, 0)), True)

    def test_each_two_of_six(self):
        hall = ("............",)
        groups = tuple(group(1, 1, 1, name) for name in ("a", "b", "c", "d", "e", "f"))
        good = tuple((0, 2 * k) for k in range(6))
        self.told(hall, groups, good, True)
        for k, j in itertools.permutations(range(6), 2):
            for shift in (0, 1):
                # k is moved upon j, or just beside it; all the others stay apart from both.
                seating = [None] * 6
                seating[j] = good[j]
                seating[k] = (0, good[j][1] + shift)
                self.told(hall, groups, tuple(seating), False)
                seating[k] = None
                self.told(hall, groups, tuple(seating), True)

    def test_apart_beyond_seats_for_nobody_is_asked_too(self):
        # Whatever seats lie between, the columns count.
        self.told((".#.",), (group(1, 1, 2), group(1, 1, 0, "cy")), ((0, 0), (0, 2)), False)
        self.told((".#.",), (group(1, 1, 1), group(1, 1, 0, "cy")), ((0, 0), (0, 2)), True)

    def test_all_seatings_of_a_small_hall_and_one_place_less(self):
        hall = (".=a.", ".#..")
        groups = (group(2, 1, 1, "a", "a", 1), group(1, 2, 0, "b"), group(1, 1, 0, "c", "", 0))
        spots = [None] + list(itertools.product(range(-1, 3), range(-1, 5)))
        kept = 0
        for seating in itertools.product(spots, repeat=3):
            answer = keeps(hall, groups, seating)
            if answer is not self.keeps_as_told(hall, groups, seating):
                self.fail(seating)
            if answer:
                kept += 1
                for k in range(3):
                    less = seating[:k] + (None,) + seating[k + 1:]
                    self.assertIs(keeps(hall, groups, less), True)
        # Not nobody alone: else one place less would say nothing.
        self.assertGreater(kept, 1)

    def keeps_as_told(self, hall, groups, seating):
        seated = [k for k in range(len(groups)) if seating[k] is not None]
        fit = all(fits(hall, groups[k], seating[k]) for k in seated)
        pairs = itertools.combinations(seated, 2)
        return fit and all(apart_as_told(groups[k], seating[k], groups[j], seating[j]) for k, j in pairs)


class WorthOf(unittest.TestCase):
    def told(self, groups, seating, worth):
        with self.subTest(groups=groups, seating=seating):
            self.assertEqual(worth_of(groups, seating), worth)
            self.assertIs(type(worth_of(groups, seating)), int)

    def test_nobody_seated(self):
        self.told((), (), 0)
        for many in range(1, 7):
            groups = tuple(group(1, 1, 0, name, "", 0, 9, ((0, 4),)) for name in "abcdef"[:many])
            self.told(groups, (None,) * many, 0)

    def test_wishes_of_the_first_row_of_another_and_of_none(self):
        one = group(2, 3, 0, "bo", "", 0, 10, ((1, 5), (3, 7)))
        self.told((one,), ((0, 0),), 10)
        self.told((one,), ((1, 0),), 15)
        self.told((one,), ((2, 4),), 10)
        self.told((one,), ((3, 1),), 17)
        self.told((one,), ((4, 3),), 10)
        self.told((one,), ((5, 0),), 10)

    def test_columns_are_no_rows(self):
        one = group(1, 1, 0, "bo", "", 0, 10, ((0, 1), (2, 5)))
        self.told((one,), ((1, 2),), 10)
        self.told((one,), ((2, 1),), 15)
        self.told((one,), ((1, 0),), 10)

    def test_all_that_sit_together(self):
        groups = (
            group(1, 1, 0, "a", "", 0, 1, ((0, 10),)), group(1, 1, 0, "b", "", 0, 200, ((1, 3000),)),
            group(1, 1, 0, "c", "", 0, 0, ((5, 40000),)),
        )
        self.told(groups, ((0, 0), (1, 0), (5, 0)), 43211)
        self.told(groups, ((1, 0), (0, 0), (4, 0)), 201)
        self.told(groups, (None, (1, 0), None), 3200)
        self.told(groups, ((0, 3), None, (5, 2)), 40011)
        self.told(groups, (None, None, (0, 0)), 0)

    def test_sums_of_sixty_figures_and_more(self):
        wishes = tuple((row, SIXTY) for row in range(6))
        groups = tuple(group(1, 1, 0, name, "", 0, SIXTY, wishes) for name in "abcdef")
        self.told(groups, tuple((row, 0) for row in range(6)), 12 * SIXTY)
        self.told(groups, ((0, 0), None, None, None, None, (5, 5)), 4 * SIXTY)
        self.told((group(1, 1, 0, "a", "", 0, SIXTY),), ((3, 0),), SIXTY)
        self.told((group(1, 1, 0, "a", "", 0, SIXTY, ((3, 1),)),), ((3, 0),), 10 ** 60)

    def test_as_worth_in_tells(self):
        groups = tuple(group(1, 1, 0, name, "", 0, 7 * k, ((k, 3 + k),)) for k, name in enumerate("abcd"))
        for rows in itertools.product(range(6), repeat=4):
            seating = tuple((row, 0) for row in rows)
            self.assertEqual(worth_of(groups, seating), sum(worth_in(one, row) for one, row in zip(groups, rows)))


class FreeSeats(unittest.TestCase):
    def told(self, hall, groups, seating, seats):
        with self.subTest(hall=hall, groups=groups, seating=seating):
            self.assertIs(keeps(hall, groups, seating), True)
            self.assertEqual(free_seats(hall, groups, seating), seats)
            self.assertIs(type(free_seats(hall, groups, seating)), tuple)

    def test_nobody_seated(self):
        self.told(("#",), (), (), ())
        self.told((".",), (), (), ((0, 0),))
        self.told((".=#az",), (), (), ((0, 0), (0, 1), (0, 3), (0, 4)))
        self.told(("#.", "a#", "=="), (group(),), (None,), ((0, 1), (1, 0), (2, 0), (2, 1)))
        self.told(("." * 12,) * 6, (), (), tuple(itertools.product(range(6), range(12))))
        self.told(("#" * 12,) * 6, (), (), ())

    def test_those_that_sit_are_not_among_them(self):
        hall = ("..a.", "=#..", "....")
        one, other = group(2, 1, 0, "bo"), group(1, 2, 1, "cy", "a")
        self.told(hall, (one, other), ((0, 0), None), ((0, 2), (0, 3), (1, 0), (1, 2), (1, 3), (2, 0), (2, 1), (2, 2), (2, 3)))
        self.told(hall, (one, other), ((0, 0), (0, 3)), ((0, 2), (1, 0), (1, 2), (2, 0), (2, 1), (2, 2), (2, 3)))
        self.told(hall, (one, other), (None, (0, 2)), ((0, 0), (0, 1), (0, 3), (1, 0), (1, 3), (2, 0), (2, 1), (2, 2), (2, 3)))
        self.told(hall, (other, one), (None, (2, 2)), ((0, 0), (0, 1), (0, 2), (0, 3), (1, 0), (1, 2), (1, 3), (2, 0), (2, 1)))

    def test_all_seats_taken(self):
        self.told((".#", ".#"), (group(1, 2),), ((0, 0),), ())
        self.told(("....",), (group(2), group(2, 1, 0, "cy")), ((0, 2), (0, 0)), ())

    def test_the_gap_is_free(self):
        self.told((".....",), (group(1, 1, 6),), ((0, 2),), ((0, 0), (0, 1), (0, 3), (0, 4)))

    def test_free_and_taken_are_all_but_those_for_nobody(self):
        hall = (".=a#.", "..#b.", "=...a")
        groups = (group(2, 1, 0, "a", "a"), group(1, 2, 1, "b"), group(1, 1, 0, "c", "b"))
        for seating in itertools.product(*[(None,) + places_of(hall, one) for one in groups]):
            if keeps(hall, groups, seating):
                free = free_seats(hall, groups, seating)
                taken = [seat for one, place in zip(groups, seating) if place is not None for seat in seats_of(one, place)]
                self.assertEqual(free, tuple(sorted(set(free))))
                self.assertEqual(set(free) & set(taken), set())
                seats = [(r, c) for r, c in itertools.product(range(3), range(5)) if hall[r][c] != "#"]
                self.assertEqual(sorted(list(free) + taken), seats)


class Unchanged(unittest.TestCase):
    def test_asked_twice_the_same_comes(self):
        hall = ("....", "....")
        groups = (group(2, 1, 1, "a", "", 0, 4, ((1, 2),)), group(1, 2, 0, "b", "", 0, 3))
        seating = ((1, 0), (0, 3))
        answers = [(keeps(hall, groups, seating), worth_of(groups, seating), free_seats(hall, groups, seating))
                   for time in range(3)]
        self.assertEqual(answers, [(True, 9, ((0, 0), (0, 1), (0, 2), (1, 2)))] * 3)
        self.assertEqual(hall, ("....", "...."))
        self.assertEqual(groups, (group(2, 1, 1, "a", "", 0, 4, ((1, 2),)), group(1, 2, 0, "b", "", 0, 3)))
        self.assertEqual(seating, ((1, 0), (0, 3)))


if __name__ == "__main__":
    unittest.main()
