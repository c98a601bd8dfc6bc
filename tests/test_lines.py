import itertools
import unittest

from besideseats.lines import most_in, stakes
from besideseats.places import places_of
from besideseats.seatings import apart


def group(width=1, depth=1, gap=0, kind="", wide=0):
    return ("bo", width, depth, kind, wide, gap, 3, ((0, 1), (4, 2)))


def most_by_trial(one, row, columns):
    # Every choice of places that are apart from one another, the longest first.
    for many in range(len(columns), 0, -1):
        for choice in itertools.combinations(columns, many):
            if all(apart(one, (row, a), one, (row, b)) for a, b in itertools.combinations(choice, 2)):
                return many
    return 0


class Lines(unittest.TestCase):
    def told(self, hall, row, one, columns):
        with self.subTest(hall=hall, row=row, group=one):
            self.assertEqual(most_in(hall, row, one), columns)
            self.assertIs(type(most_in(hall, row, one)), tuple)
            self.assertEqual(stakes(hall, row, one), tuple(column + one[1] + one[5] - 1 for column in columns))
            self.assertIs(type(stakes(hall, row, one)), tuple)

    def test_no_place(self):
        self.told(("#",), 0, group(), ())
        self.told(("...", "###"), 1, group(), ())
        self.told(("...", "..."), 0, group(4), ())
        self.told(("...", "..."), 0, group(1, 3), ())
        self.told(("aaa",), 0, group(1, 1, 0, "b"), ())
        self.told(("...",), 0, group(1, 1, 0, "", 1), ())

    def test_the_last_rows_have_no_place_for_depth(self):
        hall = ("...",) * 4
        self.told(hall, 1, group(2, 3), (0,))
        self.told(hall, 2, group(2, 3), ())
        self.told(hall, 3, group(2, 3), ())
        self.told(hall, 3, group(2, 1), (0,))

    def test_one_place(self):
        self.told((".",), 0, group(), (0,))
        self.told(("#.#",), 0, group(), (1,))
        self.told(("###", "..."), 1, group(3), (0,))
        self.told(("..=..",), 0, group(1, 1, 0, "", 1), (2,))

    def test_many(self):
        hall = ("............",)
        self.told(hall, 0, group(), tuple(range(12)))
        self.told(hall, 0, group(2), (0, 2, 4, 6, 8, 10))
        self.told(hall, 0, group(5), (0, 5))
        self.told(hall, 0, group(12), (0,))
        self.told(hall, 0, group(7), (0,))

    def test_gaps(self):
        hall = ("............",)
        self.told(hall, 0, group(1, 1, 0), (0, 1, 2, 3, 4, 5, 6, 7, 8, 9, 10, 11))
        self.told(hall, 0, group(1, 1, 1), (0, 2, 4, 6, 8, 10))
        self.told(hall, 0, group(1, 1, 2), (0, 3, 6, 9))
        self.told(hall, 0, group(1, 1, 3), (0, 4, 8))
        self.told(hall, 0, group(1, 1, 4), (0, 5, 10))
        self.told(hall, 0, group(1, 1, 5), (0, 6))
        self.told(hall, 0, group(1, 1, 6), (0, 7))
        self.told(hall, 0, group(3, 1, 6), (0, 9))
        self.told(hall, 0, group(4, 1, 5), (0,))

    def test_stakes_by_hand(self):
        hall = ("............",)
        self.assertEqual(stakes(hall, 0, group()), tuple(range(12)))
        self.assertEqual(stakes(hall, 0, group(3)), (2, 5, 8, 11))
        self.assertEqual(stakes(hall, 0, group(3, 1, 2)), (4, 9))
        self.assertEqual(stakes(("#..#...#",), 0, group(2, 1, 1)), (3, 6))
        self.assertEqual(stakes(("..",), 0, group(2, 1, 6)), (7,))
        self.assertEqual(stakes(("##",), 0, group(2, 1, 6)), ())

    def test_depth_above_one(self):
        hall = ("....#...", "#.......", "........")
        self.told(hall, 0, group(2, 1), (0, 2, 5))
        self.told(hall, 0, group(2, 2), (1, 5))
        self.told(hall, 1, group(2, 2), (1, 3, 5))
        self.told(hall, 0, group(1, 3, 2), (1, 5))
        self.told(hall, 2, group(2, 2), ())

    def test_seats_for_nobody_and_of_kinds_in_between(self):
        self.told(("..#..a..",), 0, group(2), (0, 3, 6))
        self.told(("..#..a..",), 0, group(2, 1, 0, "a"), (0, 3, 5))
        self.told(("..#..a..",), 0, group(2, 1, 1), (0, 3, 6))
        self.told(("..#..a..",), 0, group(2, 1, 2), (0, 6))
        self.told(("..#..a..",), 0, group(2, 1, 2, "a"), (0, 4))
        self.told((".#.#.#.",), 0, group(1, 1, 1), (0, 2, 4, 6))
        self.told((".#.#.#.",), 0, group(1, 1, 2), (0, 4))
        self.told(("=..=.=",), 0, group(2, 1, 0, "", 1), (0, 2, 4))

    def test_each_row_by_itself(self):
        hall = ("....", ".#..", "##..", "...#")
        self.told(hall, 0, group(2), (0, 2))
        self.told(hall, 1, group(2), (2,))
        self.told(hall, 2, group(2), (2,))
        self.told(hall, 3, group(2), (0,))

    def ones(self):
        for width, depth, gap in itertools.product((1, 2, 3), (1, 2), range(7)):
            yield group(width, depth, gap)
            yield group(width, depth, gap, "a", 1)

    def test_no_more_fit_and_each_place_meets_a_stake(self):
        for signs in itertools.product(".=#a", repeat=5):
            text = "".join(signs) + "=."
            hall = (text, ".a=.a..")
            # Each hall is asked of some of the groups, all groups of some halls.
            for one in itertools.islice(self.ones(), len(set(text)) + text.count("a"), None, 9):
                for row in (0, 1):
                    self.check_all_told(hall, row, one)

    def check_all_told(self, hall, row, one):
        columns = [place[1] for place in places_of(hall, one) if place[0] == row]
        reach = one[1] + one[5] - 1
        most = most_in(hall, row, one)
        met = {column: [stake for stake in stakes(hall, row, one) if column <= stake <= column + reach] for column in columns}
        told = (hall, row, one)
        self.assertEqual(list(most), sorted(set(most)), told)
        self.assertEqual(list(most[:1]), columns[:1], told)
        self.assertLessEqual(set(most), set(columns), told)
        self.assertEqual(len(most), most_by_trial(one, row, columns), told)
        self.assertEqual(stakes(hall, row, one), tuple(column + reach for column in most), told)
        for a, b in itertools.combinations(most, 2):
            self.assertTrue(apart(one, (row, a), one, (row, b)), told)
        for column in columns:
            self.assertTrue(met[column], told)
        for a, b in itertools.combinations(columns, 2):
            if apart(one, (row, a), one, (row, b)):
                self.assertEqual(set(met[a]) & set(met[b]), set(), told)

    def test_the_first_one_behind_is_taken(self):
        for one in self.ones():
            hall = ("a.=#..=a=#.=", "..=a=.#.====")
            for row in (0, 1):
                columns = [place[1] for place in places_of(hall, one) if place[0] == row]
                taken = columns[:1]
                while True:
                    behind = [column for column in columns if taken and column - taken[-1] >= one[1] + one[5]]
                    if not behind:
                        break
                    taken.append(behind[0])
                self.told(hall, row, one, tuple(taken))

    def test_asked_twice_the_same_comes(self):
        hall = ("..#..a..", "........")
        one = group(2, 2, 1, "a")
        answers = [(most_in(hall, 0, one), stakes(hall, 0, one)) for time in range(3)]
        self.assertEqual(answers, [((0, 3, 6), (2, 5, 8))] * 3)
        self.assertEqual((hall, one), (("..#..a..", "........"), group(2, 2, 1, "a")))


if __name__ == "__main__":
    unittest.main()
