import itertools
import unittest

from besideseats.places import fits, places_of, seats_of, takes

FAR = 10 ** 60 - 1
LETTERS = "abcdefghijklmnopqrstuvwxyz"


def group(width=1, depth=1, kind="", wide=0, gap=0):
    return ("bo", width, depth, kind, wide, gap, 3, ((0, 1), (4, 2)))


def fits_as_told(hall, one, place):
    # Seat by seat over the hall itself, not over the group's own seats.
    row, column = place
    many = wides = 0
    for r, signs in enumerate(hall):
        for c, sign in enumerate(signs):
            if row <= r < row + one[2] and column <= c < column + one[1]:
                many += sign in ".=" or (sign in LETTERS and sign == one[3])
                wides += sign == "="
    return many == one[1] * one[2] and wides >= one[4]


class Takes(unittest.TestCase):
    def told(self, sign, kind, answer):
        with self.subTest(sign=sign, kind=kind):
            self.assertIs(takes(sign, kind), answer)

    def test_seats_for_anyone(self):
        for kind in ("",) + tuple(LETTERS):
            self.told(".", kind, True)
            self.told("=", kind, True)

    def test_seats_for_nobody(self):
        for kind in ("",) + tuple(LETTERS):
            self.told("#", kind, False)

    def test_seats_of_one_kind(self):
        for sign in LETTERS:
            for kind in LETTERS:
                self.told(sign, kind, sign == kind)
            self.told(sign, "", False)


class SeatsOf(unittest.TestCase):
    def told(self, one, place, seats):
        with self.subTest(group=one, place=place):
            self.assertEqual(seats_of(one, place), seats)
            self.assertEqual(seats_of(one, place), seats)

    def test_by_hand(self):
        self.told(group(), (0, 0), ((0, 0),))
        self.told(group(3), (1, 4), ((1, 4), (1, 5), (1, 6)))
        self.told(group(1, 3), (1, 4), ((1, 4), (2, 4), (3, 4)))
        self.told(group(2, 2), (0, 1), ((0, 1), (0, 2), (1, 1), (1, 2)))
        self.told(group(2, 2), (-1, -2), ((-1, -2), (-1, -1), (0, -2), (0, -1)))
        self.told(group(2, 1), (-FAR, FAR), ((-FAR, FAR), (-FAR, FAR + 1)))
        self.told(group(1, 2), (FAR, -FAR), ((FAR, -FAR), (FAR + 1, -FAR)))

    def test_as_many_as_width_times_depth_rising_each_once(self):
        for width in range(1, 13):
            for depth in range(1, 4):
                for row, column in itertools.product((0, 5, -1, -7, FAR, -FAR), repeat=2):
                    seats = seats_of(group(width, depth), (row, column))
                    with self.subTest(width=width, depth=depth, row=row, column=column):
                        self.assertIs(type(seats), tuple)
                        self.assertEqual(len(seats), width * depth)
                        self.assertEqual(seats, tuple(sorted(set(seats))))
                        self.assertEqual(seats[0], (row, column))
                        self.assertEqual(seats[-1], (row + depth - 1, column + width - 1))
                        self.assertEqual({len(seat) for seat in seats}, {2})

    def test_no_other_part_counts(self):
        self.told(("cy", 1, 2, "q", 2, 6, FAR, ((1, FAR),)), (2, 2), ((2, 2), (3, 2)))


class Fits(unittest.TestCase):
    def told(self, hall, one, place, answer):
        with self.subTest(hall=hall, group=one, place=place):
            self.assertIs(fits(hall, one, place), answer)
            self.assertIs(fits(hall, one, place), answer)

    def test_within_at_the_edges_and_just_beyond(self):
        for rows in range(1, 7):
            for columns in range(1, 13):
                hall = ("." * columns,) * rows
                for one in (group(), group(2, 1), group(1, 2), group(3, 3), group(12, 1)):
                    lasts = (rows - one[2], columns - one[1])
                    for row in range(-3, rows + 2):
                        for column in (-12, -1, 0, 1, lasts[1] - 1, lasts[1], lasts[1] + 1, columns, columns + 1):
                            self.told(hall, one, (row, column), 0 <= row <= lasts[0] and 0 <= column <= lasts[1])

    def test_far_away(self):
        hall = ("....", "....")
        for row, column in itertools.product((0, FAR, -FAR), repeat=2):
            self.told(hall, group(2, 2), (row, column), (row, column) == (0, 0))
            self.told(hall, group(1, 1), (row, column), (row, column) == (0, 0))

    def test_a_seat_anywhere_that_takes_it_not(self):
        one = group(3, 2, "a")
        for row, column in itertools.product(range(2), range(3)):
            for sign in ".=#abz":
                rows = ["...", "..."]
                rows[row] = rows[row][:column] + sign + rows[row][column + 1:]
                self.told(tuple(rows), one, (0, 0), sign in ".=a")
                self.told(tuple(rows), group(3, 2), (0, 0), sign in ".=")

    def test_seats_beside_it_count_for_nothing(self):
        self.told(("#####", "#...#", "#...#", "#####"), group(3, 2), (1, 1), True)
        self.told(("=====", "=...=", "=...=", "====="), group(3, 2, "", 1), (1, 1), False)

    def test_wide_seats(self):
        for width, depth in ((1, 1), (2, 1), (1, 3), (3, 2)):
            for signs in itertools.product("=.", repeat=width * depth):
                text = "".join(signs)
                hall = tuple(text[width * k:width * k + width] for k in range(depth))
                for wide in range(width * depth + 1):
                    self.told(hall, group(width, depth, "", wide), (0, 0), text.count("=") >= wide)

    def test_one_wide_seat_more_and_less(self):
        self.told(("==.",), group(3, 1, "", 2), (0, 0), True)
        self.told(("=..",), group(3, 1, "", 2), (0, 0), False)
        self.told(("===",), group(3, 1, "", 2), (0, 0), True)
        self.told(("aa=",), group(3, 1, "a", 2), (0, 0), False)
        self.told(("a==",), group(3, 1, "a", 2), (0, 0), True)

    def test_gap_worth_and_wishes_count_for_nothing(self):
        self.told(("#.#",), ("cy", 1, 1, "", 0, 6, FAR, ((0, FAR),)), (0, 1), True)
        self.told((".",), ("cy", 1, 1, "", 0, 6, 0, ()), (0, 0), True)


class PlacesOf(unittest.TestCase):
    def told(self, hall, one, places):
        with self.subTest(hall=hall, group=one):
            self.assertEqual(places_of(hall, one), places)
            self.assertIs(type(places_of(hall, one)), tuple)

    def test_by_hand(self):
        self.told((".",), group(), ((0, 0),))
        self.told(("#",), group(), ())
        self.told(("..#..", "....."), group(2), ((0, 0), (0, 3), (1, 0), (1, 1), (1, 2), (1, 3)))
        self.told(("..#..", "....."), group(2, 2), ((0, 0), (0, 3)))
        self.told(("aab", "=.a"), group(2, 1, "a"), ((0, 0), (1, 0), (1, 1)))
        self.told(("aab", "=.a"), group(2, 1, "a", 1), ((1, 0),))
        self.told(("aab", "=.a"), group(2, 1, "b"), ((1, 0),))
        self.told(("aab", "=.a"), group(2, 1), ((1, 0),))

    def test_the_greatest_hall(self):
        hall = ("." * 12,) * 6
        self.told(hall, group(), tuple(itertools.product(range(6), range(12))))
        self.told(hall, group(12, 3), ((0, 0), (1, 0), (2, 0), (3, 0)))
        self.told(hall, group(11, 3), tuple(itertools.product(range(4), range(2))))
        self.told(hall, group(12, 3, "", 1), ())
        self.told(("=" * 12,) * 6, group(12, 3, "", 36), ((0, 0), (1, 0), (2, 0), (3, 0)))

    def test_wider_or_deeper_than_the_hall(self):
        self.told(("...",), group(4), ())
        self.told(("...",), group(12), ())
        self.told(("...", "..."), group(1, 3), ())
        self.told((".",), group(2, 2), ())

    def test_all_that_fit_and_no_other(self):
        ones = [group(width, depth, kind, wide) for width in (1, 2, 3) for depth in (1, 2) for kind in ("", "a")
                for wide in (0, 1, 2) if wide <= width * depth]
        for signs in itertools.product(".=#ab", repeat=4):
            text = "".join(signs)
            for hall in ((text,), (text[:2], text[2:]), tuple(text), (text, text[::-1], text)):
                spots = itertools.product(range(-2, len(hall) + 2), range(-2, len(hall[0]) + 2))
                for one in ones:
                    self.assertEqual(places_of(hall, one), self.all_told(hall, one), (hall, one))
                one = ones[len(set(text)) * 5]
                for spot in spots:
                    self.assertIs(fits(hall, one, spot), fits_as_told(hall, one, spot), (hall, one, spot))

    def all_told(self, hall, one):
        spots = itertools.product(range(len(hall)), range(len(hall[0])))
        return tuple(spot for spot in spots if fits_as_told(hall, one, spot))

    def test_asked_twice_the_same_comes(self):
        hall = ("a.=#", "..b=")
        one = group(2, 1, "a", 1)
        self.assertEqual(places_of(hall, one), places_of(hall, one))
        self.assertEqual((hall, one), (("a.=#", "..b="), group(2, 1, "a", 1)))


if __name__ == "__main__":
    unittest.main()
