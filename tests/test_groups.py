import unittest

from besideseats.groups import is_group, is_name, worth_in

SIXTY = 10 ** 60 - 1
SIXTY_ONE = 10 ** 60
LEAST = ("a", 1, 1, "", 0, 0, 0, ())
GREATEST = ("abcdefyz", 12, 3, "z", 36, 6, SIXTY, tuple((row, SIXTY) for row in range(6)))
ANN = ("ann", 3, 2, "a", 1, 2, 5, ((0, 7), (2, 9)))

NAME, WIDTH, DEPTH, KIND, WIDE, GAP, WORTH, WISHES = range(8)
NO_WHOLE_NUMBERS = (None, True, False, "", "1", 1.0, 0.0, (), (1,), [1], {}, b"1", object())


def with_part(group, part, value):
    return group[:part] + (value,) + group[part + 1:]


class IsName(unittest.TestCase):
    def told(self, thing, answer):
        with self.subTest(thing=thing):
            self.assertIs(is_name(thing), answer)

    def test_names(self):
        for thing in ("a", "z", "m", "bo", "ann", "az", "za", "aaaaaaaa", "zzzzzzzz", "abcdefgh", "type"):
            self.told(thing, True)
        for letter in "abcdefghijklmnopqrstuvwxyz":
            self.told(letter, True)

    def test_lengths(self):
        for length in range(1, 9):
            self.told("k" * length, True)
        self.told("", False)
        self.told("k" * 9, False)
        self.told("k" * 2000, False)

    def test_signs_that_are_no_letters(self):
        for sign in ("A", "Z", "0", "9", " ", "\n", "\t", "-", "_", "`", "{", ".", "=", "#", "'"):
            self.told(sign, False)
            self.told("ann" + sign, False)
            self.told(sign + "ann", False)
            self.told("a" + sign + "n", False)
        self.told("abcdefgh\n", False)
        self.told("abcdefg\n", False)

    def test_things_that_are_no_texts(self):
        for thing in (None, 0, 1, -1, SIXTY, 1.5, True, False, (), ("a",), ("a", "b"), [], ["a"], {}, {"a": 1}, {"a"}, b"a"):
            self.told(thing, False)


class IsGroup(unittest.TestCase):
    def told(self, thing, answer):
        with self.subTest(thing=thing):
            self.assertIs(is_group(thing), answer)

    def part_told(self, part, values, answer):
        # Both ends are tried, so that no other part alone makes the answer.
        for value in values:
            for group in (LEAST, ANN, GREATEST):
                self.told(with_part(group, part, value), answer)

    def test_least_and_greatest(self):
        self.told(LEAST, True)
        self.told(GREATEST, True)
        self.told(ANN, True)

    def test_names(self):
        self.part_told(NAME, ("a", "z", "bo", "abcdefgh"), True)
        self.part_told(NAME, ("", "abcdefghi", "A", "ann1", "a b", "ann\n", "a`", "a{"), False)
        self.part_told(NAME, (None, True, False, 0, 1, ("a",), ["a"], {}, b"a"), False)

    def test_widths(self):
        for width in range(1, 13):
            self.told(with_part(LEAST, WIDTH, width), True)
        self.part_told(WIDTH, (0, 13, -1, -12, SIXTY, -SIXTY), False)
        self.part_told(WIDTH, NO_WHOLE_NUMBERS, False)

    def test_depths(self):
        for depth in range(1, 4):
            self.told(with_part(LEAST, DEPTH, depth), True)
        self.part_told(DEPTH, (0, 4, -1, -3, SIXTY, -SIXTY), False)
        self.part_told(DEPTH, NO_WHOLE_NUMBERS, False)

    def test_both_below_nought_make_no_bound_of_wide(self):
        self.told(("a", -1, -1, "", 0, 0, 0, ()), False)
        self.told(("a", -2, -2, "", 4, 0, 0, ()), False)

    def test_kinds(self):
        self.part_told(KIND, ("", "a", "z", "m"), True)
        self.part_told(KIND, ("aa", "az", "ab", "A", "Z", "0", " ", "\n", "a\n", ".", "=", "#", "`", "{"), False)
        self.part_told(KIND, (None, True, False, 0, 1, (), ("a",), [], ["a"], {}, b"a"), False)

    def test_wide(self):
        for width in range(1, 13):
            for depth in range(1, 4):
                group = with_part(with_part(LEAST, WIDTH, width), DEPTH, depth)
                self.told(with_part(group, WIDE, width * depth), True)
                self.told(with_part(group, WIDE, width * depth + 1), False)
                self.told(with_part(group, WIDE, -1), False)
        self.part_told(WIDE, (0, 1), True)
        self.part_told(WIDE, (37, -1, SIXTY, -SIXTY), False)
        self.part_told(WIDE, NO_WHOLE_NUMBERS, False)

    def test_gaps(self):
        self.part_told(GAP, range(7), True)
        self.part_told(GAP, (7, -1, SIXTY, -SIXTY), False)
        self.part_told(GAP, NO_WHOLE_NUMBERS, False)

    def test_worths(self):
        self.part_told(WORTH, (0, 1, 10 ** 59, SIXTY), True)
        self.part_told(WORTH, (-1, SIXTY_ONE, -SIXTY, 10 ** 2000), False)
        self.part_told(WORTH, NO_WHOLE_NUMBERS, False)

    def test_wishes(self):
        self.part_told(WISHES, (
            (), ((0, 1),), ((5, 1),), ((0, SIXTY),), ((0, 1), (1, 1)), ((0, 2), (5, 1)), ((2, 9), (3, 9), (4, 9)),
            tuple((row, 1) for row in range(6)),
        ), True)

    def test_wishes_that_do_not_rise(self):
        self.part_told(WISHES, (
            ((0, 1), (0, 1)), ((0, 1), (0, 2)), ((3, 1), (2, 5)), ((0, 1), (2, 1), (1, 1)), ((1, 1), (0, 1), (2, 1)),
            ((0, 1), (2, 1), (2, 1)), ((5, 1), (0, 1)), ((0, 1), (1, 1), (0, 1)),
        ), False)

    def test_wishes_beyond_the_bounds(self):
        six = tuple((row, 1) for row in range(6))
        self.part_told(WISHES, (
            ((6, 1),), ((-1, 1),), ((0, 0),), ((0, -1),), ((0, SIXTY_ONE),), ((SIXTY, 1),), ((-SIXTY, 1),),
            ((0, 1), (6, 1)), ((-1, 1), (0, 1)), ((0, 1), (1, 0)), six + ((6, 1),), ((-1, 1),) + six, six + ((5, 1),),
        ), False)

    def test_wishes_of_another_form(self):
        self.part_told(WISHES, (
            [], [(0, 1)], None, True, False, 0, 1, "", "01", {}, {0: 1}, (0, 1), ((),), ((0,),), ((0, 1, 1),), ([0, 1],),
            (None,), (True,), (0,), ("01",), ({0: 1},), ((0, 1), [1, 1]), ((0, 1), (1,)), ((0, 1), (1, 1, 1)),
            ((0, 1), None), (((0, 1),),), b"",
        ), False)

    def test_wishes_of_no_whole_numbers(self):
        for thing in NO_WHOLE_NUMBERS:
            self.part_told(WISHES, (((thing, 1),), ((0, thing),), ((0, 1), (thing, 1)), ((0, 1), (1, thing))), False)

    def test_tuples_of_other_lengths_and_no_tuples(self):
        for group in (LEAST, ANN, GREATEST):
            self.told(group[:7], False)
            self.told(group[1:], False)
            self.told(group + ((),), False)
            self.told(group + (None,), False)
            self.told(list(group), False)
            self.told((group,), False)
        for thing in ((), [], "", "abcdefgh", None, True, False, 0, 8, SIXTY, 1.5, {}, {"a": 1}, b"abcdefgh", object()):
            self.told(thing, False)
        self.told((None,) * 8, False)

    def test_what_is_handed_in_stays(self):
        thing = ["ann", 3, 2, "a", 1, 2, 5, [[0, 7], [2, 9]]]
        is_group(thing)
        is_group(tuple(thing))
        self.assertEqual(thing, ["ann", 3, 2, "a", 1, 2, 5, [[0, 7], [2, 9]]])


class WorthIn(unittest.TestCase):
    def told(self, group, worths):
        for row in range(6):
            with self.subTest(group=group, row=row):
                self.assertEqual(worth_in(group, row), worths[row])
                self.assertEqual(worth_in(group, row), worths[row])

    def test_with_wishes_and_without(self):
        self.told(ANN, (12, 5, 14, 5, 5, 5))
        self.told(("bo", 1, 1, "", 0, 0, 4, ((5, 3),)), (4, 4, 4, 4, 4, 7))
        self.told(("cy", 1, 1, "", 0, 0, 100, tuple((row, row + 1) for row in range(6))), (101, 102, 103, 104, 105, 106))

    def test_no_wishes(self):
        self.told(LEAST, (0,) * 6)
        self.told(with_part(LEAST, WORTH, 8), (8,) * 6)

    def test_worth_nought(self):
        self.told(with_part(ANN, WORTH, 0), (7, 0, 9, 0, 0, 0))

    def test_worths_of_sixty_figures(self):
        self.told(GREATEST, (2 * SIXTY,) * 6)
        self.told(with_part(LEAST, WORTH, SIXTY), (SIXTY,) * 6)
        self.told(with_part(LEAST, WISHES, ((3, SIXTY),)), (0, 0, 0, SIXTY, 0, 0))
        self.told(with_part(ANN, WORTH, SIXTY), (SIXTY + 7, SIXTY, SIXTY + 9, SIXTY, SIXTY, SIXTY))

    def test_no_other_part_counts(self):
        group = ("dee", 7, 3, "q", 20, 6, 5, ((1, 2),))
        self.told(group, (5, 7, 5, 5, 5, 5))


if __name__ == "__main__":
    unittest.main()
