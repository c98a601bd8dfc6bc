import unittest

from besideseats.halls import is_hall, sign_at

GREAT = 10 ** 60 - 1
HALLS = (
    (".",),
    ("=",),
    ("#",),
    ("a",),
    ("z",),
    ("m",),
    (".=#az",),
    (".", "=", "#", "a", "z", "k"),
    ("............",),
    ("abcdefghijkl", "mnopqrstuvwx", "yz.=#......."),
    (".=#az.=#az.=", "............", "############", "============", "aaaaaaaaaaaa", "zzzzzzzzzzzz"),
)


class IsHall(unittest.TestCase):
    def told(self, thing, answer):
        with self.subTest(thing=thing):
            self.assertIs(is_hall(thing), answer)

    def test_halls(self):
        for hall in HALLS:
            self.told(hall, True)

    def test_every_size_up_to_six_rows_of_twelve(self):
        for rows in range(1, 7):
            for columns in range(1, 13):
                self.told((".=#az.=#az.="[:columns],) * rows, True)

    def test_too_few_or_too_many_rows(self):
        self.told((), False)
        self.told((".",) * 7, False)
        self.told(("............",) * 7, False)
        self.told((".",) * 1000, False)

    def test_rows_too_short_or_too_long(self):
        self.told(("",), False)
        self.told(("", ""), False)
        self.told(("." * 13,), False)
        self.told(("." * 13,) * 2, False)
        self.told(("." * 2000,), False)

    def test_rows_of_unlike_length(self):
        self.told(("..", "."), False)
        self.told((".", ".."), False)
        self.told(("..", "..", "..."), False)
        self.told(("..", "...", ".."), False)
        self.told(("..", ""), False)
        self.told(("." * 12, "." * 11), False)

    def test_signs_that_are_none(self):
        # "`" stands just ahead of "a", "{" just behind "z".
        for sign in ("A", "Z", "M", "0", "9", " ", "\n", "\t", "-", "`", "{", "/", "<", ">", "\"", "$", "_", "~", "!"):
            self.told((sign,), False)
            self.told(("." + sign,), False)
            self.told((sign + ".",), False)
            self.told(("..", "." + sign), False)
        self.told((".\n",), False)
        self.told(("..", "..\n"), False)

    def test_wrong_kinds_in_place_of_the_tuple(self):
        for thing in (
            ["..", ".."], [], "..", "", ".", 0, 1, -1, GREAT, 1.5, None, True, False,
            {}, {0: ".."}, {"..": ".."}, {".."}, b"..", object(), is_hall,
        ):
            self.told(thing, False)

    def test_wrong_kinds_in_place_of_a_row(self):
        for row in ([".", "."], ["."], (".", "."), (".",), (), [], 0, 2, GREAT, None, True, False, {}, b"..", object()):
            self.told((row,), False)
            self.told(("..", row), False)
            self.told((row, ".."), False)

    def test_what_is_handed_in_stays(self):
        thing = ["..", [".", "."]]
        is_hall(thing)
        is_hall((thing,))
        self.assertEqual(thing, ["..", [".", "."]])


class SignAt(unittest.TestCase):
    def test_every_seat(self):
        for hall in HALLS:
            for row in range(len(hall)):
                for column in range(len(hall[row])):
                    with self.subTest(hall=hall, row=row, column=column):
                        self.assertEqual(sign_at(hall, (row, column)), hall[row][column])

    def test_seats_by_hand(self):
        hall = (".=#", "abz")
        self.assertEqual(sign_at(hall, (0, 0)), ".")
        self.assertEqual(sign_at(hall, (0, 1)), "=")
        self.assertEqual(sign_at(hall, (0, 2)), "#")
        self.assertEqual(sign_at(hall, (1, 0)), "a")
        self.assertEqual(sign_at(hall, (1, 1)), "b")
        self.assertEqual(sign_at(hall, (1, 2)), "z")

    def test_no_seat(self):
        for hall in HALLS:
            rows = len(hall)
            columns = len(hall[0])
            for row in (rows, rows + 1, GREAT, -1, -rows, -rows - 1, -GREAT):
                for column in (0, columns - 1):
                    self.no_sign(hall, (row, column))
            for column in (columns, columns + 1, GREAT, -1, -columns, -columns - 1, -GREAT):
                for row in (0, rows - 1):
                    self.no_sign(hall, (row, column))
            for seat in ((rows, columns), (-1, -1), (rows, -1), (-1, columns), (GREAT, GREAT), (-GREAT, GREAT)):
                self.no_sign(hall, seat)

    def no_sign(self, hall, seat):
        with self.subTest(hall=hall, seat=seat):
            self.assertIsNone(sign_at(hall, seat))

    def test_row_and_column_are_not_mixed_up(self):
        self.assertIsNone(sign_at(("...",), (2, 0)))
        self.assertIsNone(sign_at((".", ".", "."), (0, 2)))


if __name__ == "__main__":
    unittest.main()
