import itertools
import unittest

from besideseats.errors import NoText
from besideseats.groups import is_group
from besideseats.halls import is_hall
from besideseats.texts import read_group, read_hall, show_group, show_hall

SIXTY = 10 ** 60 - 1
NO_TEXTS = (
    None, 0, 1, -1, SIXTY, 1.5, True, False, (), (".",), ("..", ".."), ("bo 1x1",), ("bo", 1, 1, "", 0, 0, 0, ()),
    [], ["."], ["bo 1x1"], {}, {".": "."}, {"."}, b".", b"bo 1x1", object(), read_hall,
)

ANN = ("ann", 3, 2, "a", 1, 2, 5, ((0, 7), (2, 9)))
ANN_TEXT = "ann 3x2 kind a wide 1 gap 2 worth 5 row 0 7 row 2 9"
BO = ("bo", 1, 1, "", 0, 0, 0, ())
LEAST = ("a", 1, 1, "", 0, 0, 0, ())
GREATEST = ("abcdefyz", 12, 3, "z", 36, 6, SIXTY, tuple((row, SIXTY) for row in range(6)))
WORDS = ("kind", "wide", "gap", "worth", "row", "x")


class Refusals(unittest.TestCase):
    def refused(self, read, thing):
        with self.subTest(read=read.__name__, thing=thing):
            with self.assertRaises(NoText) as taken:
                read(thing)
            self.assertIs(type(taken.exception), NoText)


class Halls(Refusals):
    def both_ways(self, hall, text):
        with self.subTest(hall=hall):
            self.assertEqual(show_hall(hall), text)
            self.assertIs(type(show_hall(hall)), str)
            for read in (read_hall(text), read_hall(text)):
                self.assertEqual(read, hall)
                self.assertIs(type(read), tuple)
                self.assertEqual({type(row) for row in read}, {str})
                self.assertTrue(is_hall(read))

    def test_by_hand(self):
        self.both_ways((".",), ".")
        self.both_ways((".=#",), ".=#")
        self.both_ways((".=#", "aa."), ".=#\naa.")
        self.both_ways(("a", "#", "z"), "a\n#\nz")

    def test_halls_of_one_seat(self):
        for sign in ".=#abcdefghijklmnopqrstuvwxyz":
            self.both_ways((sign,), sign)

    def test_every_size_and_sign(self):
        signs = itertools.cycle(".=#abcdefghijklmnopqrstuvwxyz")
        for rows in range(1, 7):
            for columns in range(1, 13):
                hall = tuple("".join(itertools.islice(signs, columns)) for row in range(rows))
                text = ""
                for row in hall:
                    text += row + "\n"
                self.both_ways(hall, text[:-1])

    def test_line_ends_at_wrong_spots(self):
        for text in ("", "\n", "\n\n", "\n.", ".\n", "\n..\n..", "..\n..\n", "..\n\n..", "..\n..\n\n", "..\n\n", "\n\n.."):
            self.refused(read_hall, text)

    def test_other_line_ends(self):
        for text in ("..\\n..", "..|..", "..;..", "..,.."):
            self.refused(read_hall, text)

    def test_rows_of_unlike_length(self):
        for text in ("..\n.", ".\n..", "..\n..\n...", "..\n...\n..", "." * 12 + "\n" + "." * 11):
            self.refused(read_hall, text)

    def test_too_great(self):
        self.refused(read_hall, "\n".join(["."] * 7))
        self.refused(read_hall, "\n".join(["." * 12] * 7))
        self.refused(read_hall, "." * 13)
        self.refused(read_hall, "\n".join(["." * 13] * 6))
        self.refused(read_hall, "." * 2000)
        self.refused(read_hall, "\n" * 2000)
        self.refused(read_hall, ".\n" * 500 + ".")

    def test_signs_that_are_none(self):
        for sign in ("A", "Z", "M", "0", "9", " ", "\t", "-", "_", "`", "{", "~", "!", "(", "'", "\"", ","):
            for text in (sign, "." + sign, sign + ".", "..\n." + sign, sign + ".\n..", "." * 11 + sign):
                self.refused(read_hall, text)

    def test_every_text_of_up_to_four_signs(self):
        # So written is a text just where cutting it at line ends gives a hall.
        for length in range(5):
            for signs in itertools.product(".#aA \n", repeat=length):
                text = "".join(signs)
                rows = []
                row = ""
                for sign in text:
                    if sign == "\n":
                        rows.append(row)
                        row = ""
                    else:
                        row += sign
                rows.append(row)
                if set(text) <= set(".#a\n") and len(rows[0]) > 0 and len({len(row) for row in rows}) == 1:
                    self.assertEqual(read_hall(text), tuple(rows))
                else:
                    self.refused(read_hall, text)

    def test_things_that_are_no_texts(self):
        for thing in NO_TEXTS:
            self.refused(read_hall, thing)

    def test_texts_of_groups(self):
        for text in (ANN_TEXT, "bo 1x1"):
            self.refused(read_hall, text)

    def test_what_is_handed_in_stays(self):
        thing = ["..", [".", "."]]
        self.refused(read_hall, thing)
        self.refused(read_hall, {"..": thing})
        self.assertEqual(thing, ["..", [".", "."]])


class GroupsBothWays(unittest.TestCase):
    def both_ways(self, group, text):
        with self.subTest(text=text):
            self.assertTrue(is_group(group))
            self.assertEqual(show_group(group), text)
            self.assertIs(type(show_group(group)), str)
            for read in (read_group(text), read_group(text)):
                self.assertEqual(read, group)
                self.same_kinds(read, group)

    def same_kinds(self, one, other):
        self.assertIs(type(one), type(other))
        if isinstance(one, tuple):
            for part, its_like in zip(one, other, strict=True):
                self.same_kinds(part, its_like)

    def test_the_two_of_the_document(self):
        self.both_ways(ANN, "ann 3x2 kind a wide 1 gap 2 worth 5 row 0 7 row 2 9")
        self.both_ways(BO, "bo 1x1")

    def test_least_and_greatest(self):
        nines = "9" * 60
        self.both_ways(LEAST, "a 1x1")
        self.both_ways(GREATEST, "abcdefyz 12x3 kind z wide 36 gap 6 worth " + nines
                       + " row 0 " + nines + " row 1 " + nines + " row 2 " + nines
                       + " row 3 " + nines + " row 4 " + nines + " row 5 " + nines)

    def test_each_part_alone(self):
        self.both_ways(("bo", 2, 1, "q", 0, 0, 0, ()), "bo 2x1 kind q")
        self.both_ways(("bo", 2, 1, "", 1, 0, 0, ()), "bo 2x1 wide 1")
        self.both_ways(("bo", 2, 1, "", 2, 0, 0, ()), "bo 2x1 wide 2")
        self.both_ways(("bo", 2, 1, "", 0, 1, 0, ()), "bo 2x1 gap 1")
        self.both_ways(("bo", 2, 1, "", 0, 6, 0, ()), "bo 2x1 gap 6")
        self.both_ways(("bo", 2, 1, "", 0, 0, 1, ()), "bo 2x1 worth 1")
        self.both_ways(("bo", 2, 1, "", 0, 0, 10 ** 59, ()), "bo 2x1 worth 1" + "0" * 59)
        self.both_ways(("bo", 2, 1, "", 0, 0, SIXTY, ()), "bo 2x1 worth " + "9" * 60)
        self.both_ways(("bo", 2, 1, "", 0, 0, 0, ((0, 1),)), "bo 2x1 row 0 1")
        self.both_ways(("bo", 2, 1, "", 0, 0, 0, ((5, 10),)), "bo 2x1 row 5 10")
        self.both_ways(("bo", 2, 1, "", 0, 0, 0, ((3, SIXTY),)), "bo 2x1 row 3 " + "9" * 60)

    def test_each_part_left_out_alone(self):
        self.both_ways(ANN[:3] + ("",) + ANN[4:], "ann 3x2 wide 1 gap 2 worth 5 row 0 7 row 2 9")
        self.both_ways(ANN[:4] + (0,) + ANN[5:], "ann 3x2 kind a gap 2 worth 5 row 0 7 row 2 9")
        self.both_ways(ANN[:5] + (0,) + ANN[6:], "ann 3x2 kind a wide 1 worth 5 row 0 7 row 2 9")
        self.both_ways(ANN[:6] + (0,) + ANN[7:], "ann 3x2 kind a wide 1 gap 2 row 0 7 row 2 9")
        self.both_ways(ANN[:7] + ((),), "ann 3x2 kind a wide 1 gap 2 worth 5")

    def test_six_wishes(self):
        self.both_ways(("cy", 1, 1, "", 0, 0, 0, ((0, 6), (1, 5), (2, 4), (3, 3), (4, 2), (5, 1))),
                       "cy 1x1 row 0 6 row 1 5 row 2 4 row 3 3 row 4 2 row 5 1")

    def test_every_size(self):
        for width in range(1, 13):
            for depth in range(1, 4):
                self.both_ways(("bo", width, depth, "", 0, 0, 0, ()), "bo %dx%d" % (width, depth))
                for wide in range(1, width * depth + 1):
                    self.both_ways(("bo", width, depth, "", wide, 0, 0, ()), "bo %dx%d wide %d" % (width, depth, wide))

    def test_names_and_kinds_that_are_words_of_the_writing(self):
        for word in WORDS:
            self.both_ways((word,) + BO[1:], word + " 1x1")
            self.both_ways((word,) + ANN[1:], word + ANN_TEXT[3:])
            self.both_ways((word, 1, 1, "x", 0, 0, 0, ()), word + " 1x1 kind x")

    def test_numbers_of_many_lengths(self):
        for figures in range(1, 61):
            number = int(("1234567890" * 6)[:figures])
            self.both_ways(("bo", 1, 1, "", 0, 0, number, ((4, number),)), "bo 1x1 worth %d row 4 %d" % (number, number))


class GroupsRefused(Refusals):
    def all_refused(self, *texts):
        for text in texts:
            self.refused(read_group, text)

    def test_words_out_of_order(self):
        parts = ("kind a", "wide 1", "gap 2", "worth 5", "row 0 7")
        for order in itertools.permutations(parts):
            if order != parts:
                self.refused(read_group, "ann 3x2 " + " ".join(order))
        for one, other in itertools.combinations(parts, 2):
            self.refused(read_group, "ann 3x2 " + other + " " + one)
        self.all_refused("3x2 ann", "kind a ann 3x2", "ann kind a 3x2", "ann a kind 3x2", "ann 3x2 a kind", "ann 3x2 1 gap")

    def test_a_word_twice(self):
        for part in ("kind a", "wide 1", "gap 2", "worth 5"):
            self.refused(read_group, "ann 3x2 " + part + " " + part)
        self.all_refused("ann 3x2 kind a kind b", "ann 3x2 wide 1 wide 2", "ann 3x2 gap 1 gap 2", "ann 3x2 worth 1 worth 2",
                         "ann 3x2 kind kind a", "ann 3x2 gap gap 2", "ann 3x2 row row 0 7", "ann ann 3x2", "ann 3x2 3x2",
                         "ann 3x2 worth 1 row 0 7 worth 1", "ann 3x2 kind a wide 1 kind a")

    def test_blanks(self):
        for at, sign in enumerate(ANN_TEXT):
            if sign == " ":
                self.all_refused(ANN_TEXT[:at] + " " + ANN_TEXT[at:], ANN_TEXT[:at] + "\t" + ANN_TEXT[at + 1:],
                                 ANN_TEXT[:at] + "\n" + ANN_TEXT[at + 1:], ANN_TEXT[:at] + ANN_TEXT[at + 1:])
        self.all_refused(" " + ANN_TEXT, ANN_TEXT + " ", "  " + ANN_TEXT, ANN_TEXT + "  ", " bo 1x1", "bo 1x1 ", "bo  1x1",
                         " ", "  ", "   ", "\t", "bo\t1x1", "bo1x1", "bo 1 x1", "bo 1x 1", "bo 1 x 1", " " * 2000)

    def test_ends_of_lines(self):
        self.all_refused("bo 1x1\n", "\nbo 1x1", "bo\n1x1", "bo 1x1\n\n", ANN_TEXT + "\n", "\n" + ANN_TEXT, "\n",
                         "bo 1x1 kind a\n", "bo 1x1 gap 2\n", "bo 1x1\nbo 1x1")

    def test_noughts_ahead(self):
        self.all_refused("bo 01x1", "bo 1x01", "bo 001x1", "bo 2x1 wide 01", "bo 2x1 gap 01", "bo 2x1 worth 01",
                         "bo 2x1 worth 0" + "9" * 59, "bo 2x1 row 00 1", "bo 2x1 row 01 1", "bo 2x1 row 1 01",
                         "bo 2x1 worth 00", "bo 2x1 gap 00", "bo 2x1 row 0 00", "bo 2x1 worth " + "0" * 60)

    def test_noughts_where_the_word_is_left_out(self):
        self.all_refused("bo 1x1 wide 0", "bo 1x1 gap 0", "bo 1x1 worth 0", "bo 1x1 row 0 0", "bo 1x1 row 5 0",
                         "bo 1x1 wide 0 gap 0 worth 0", "bo 1x1 row 0 1 row 1 0")

    def test_signs_in_front_of_numbers(self):
        for sign in "+-":
            self.all_refused("bo " + sign + "1x1", "bo 1x" + sign + "1", "bo 1x1 wide " + sign + "1",
                             "bo 1x1 gap " + sign + "1", "bo 1x1 worth " + sign + "1", "bo 1x1 row " + sign + "1 1",
                             "bo 1x1 row " + sign + "0 1", "bo 1x1 row 1 " + sign + "1", "bo 1x1 worth " + sign,
                             "bo 1x1 worth " + sign + "0")

    def test_words_that_are_no_numbers(self):
        for word in ("a", "one", "1a", "a1", "1_0", "0x1", "1.0", "1.", ".5", "1e2", "1,000", "1-", "()", "None", "True", "'1'"):
            self.all_refused("bo 1x1 wide " + word, "bo 1x1 gap " + word, "bo 1x1 worth " + word,
                             "bo 1x1 row " + word + " 1", "bo 1x1 row 1 " + word, "bo " + word + "x1", "bo 1x" + word)

    def test_every_sign_that_is_no_figure(self):
        for sign in "".join(map(chr, range(ord(" "), ord("~") + 1))) + "\t\n":
            if sign not in "0123456789%":
                for word in (sign, "1" + sign, sign + "1"):
                    self.all_refused("bo 1x1 wide " + word, "bo 1x1 gap " + word, "bo 1x1 worth " + word,
                                     "bo 1x1 row " + word + " 1", "bo 1x1 row 1 " + word, "bo " + word + "x1", "bo 1x" + word)

    def test_too_many_figures(self):
        for figures in ("1" + "0" * 60, "9" * 61, "0" * 61, "0" * 60 + "1", "9" * 1900, "9" * 5000, "0" * 5000):
            self.all_refused("bo " + figures + "x1", "bo 1x" + figures, "bo 1x1 wide " + figures, "bo 1x1 gap " + figures,
                             "bo 1x1 worth " + figures, "bo 1x1 row " + figures + " 1", "bo 1x1 row 0 " + figures,
                             figures + " 1x1", "bo 1x1 " + figures, figures)

    def test_widths_and_depths(self):
        self.all_refused("bo 0x1", "bo 13x1", "bo 1x0", "bo 1x4", "bo 0x0", "bo 13x4", "bo 12x4", "bo 13x3", "bo 100x1",
                         "bo 1x10", "bo " + "9" * 60 + "x1", "bo 1x" + "9" * 60)

    def test_sizes_of_another_form(self):
        self.all_refused("bo 1X1", "bo 1x", "bo x1", "bo x", "bo 1", "bo 11", "bo 1*1", "bo 1xx1", "bo 1x1x1", "bo 1x1x",
                         "bo x1x1", "bo 1-1", "bo axb", "bo  ", "bo 1xx")

    def test_wide(self):
        for width in range(1, 13):
            for depth in range(1, 4):
                self.refused(read_group, "bo %dx%d wide %d" % (width, depth, width * depth + 1))
        self.all_refused("bo 12x3 wide 37", "bo 1x1 wide " + "9" * 60)

    def test_gaps(self):
        self.all_refused("bo 1x1 gap 7", "bo 1x1 gap 10", "bo 1x1 gap 66", "bo 1x1 gap " + "9" * 60)

    def test_wishes(self):
        self.all_refused("bo 1x1 row 1 1 row 0 1", "bo 1x1 row 0 1 row 0 1", "bo 1x1 row 0 1 row 0 2", "bo 1x1 row 6 1",
                         "bo 1x1 row 5 1 row 6 1", "bo 1x1 row 0 1 row 2 1 row 1 1", "bo 1x1 row 0 1 row 2 1 row 2 1",
                         "bo 1x1 row 10 1", "bo 1x1 row " + "9" * 60 + " 1")
        six = "bo 1x1 row 0 1 row 1 1 row 2 1 row 3 1 row 4 1 row 5 1"
        self.all_refused(six + " row 6 1", six + " row 5 1", six + " row 5 2", six + " row 0 1", six + " row", six + " row 6")

    def test_wishes_without_their_word(self):
        self.all_refused("bo 1x1 0 1", "bo 1x1 rows 0 1", "bo 1x1 Row 0 1", "bo 1x1 col 0 1", "bo 1x1 x 0 1", "bo 1x1 row 0 1 1 1",
                         "bo 1x1 row 0 1 gap 1 1", "bo 1x1  0 1", "bo 1x1 kind 0 1", "bo 1x1 worth 0 1", "bo 1x1 row 0 1 2 1 1")

    def test_kinds(self):
        for kind in ("aa", "ab", "A", "Z", "0", ".", "=", "#", "", "`", "{", "a\n", "kind"):
            self.refused(read_group, "bo 1x1 kind " + kind)

    def test_names_that_are_none(self):
        for name in ("", "abcdefghi", "A", "Bo", "bO", "bo1", "1", "b-o", "b_o", "bo.", "#", "`", "{", "a" * 2000):
            self.refused(read_group, name + " 1x1")
            self.refused(read_group, name + ANN_TEXT[3:])

    def test_a_number_behind_a_word_left_out(self):
        self.all_refused("bo 1x1 1", "bo 1x1 a", "bo 1x1 kind a 1", "bo 1x1 wide 1 2", "bo 1x1 gap 1 1", "bo 1x1 worth 1 1",
                         "bo 1x1 row 0 1 1", "ann 3x2 a wide 1 gap 2", "ann 3x2 kind a 1 gap 2", "ann 3x2 wide 1 2 worth 5")

    def test_a_word_too_much_or_too_few(self):
        words = ANN_TEXT.split(" ")
        for length in range(len(words)):
            if length not in (2, 4, 6, 8, 10, 13):
                self.refused(read_group, " ".join(words[:length]))
        for extra in ("a", "1", "x", "kind", "wide", "gap", "worth", "row", "ann", "row 5", "0 1"):
            self.refused(read_group, ANN_TEXT + " " + extra)
            self.refused(read_group, "bo 1x1 " + extra)
        for at in range(len(words)):
            for extra in ("a", "1", "row", "kind"):
                self.refused(read_group, " ".join(words[:at] + [extra] + words[at:]))

    def test_great_letters_and_other_words(self):
        self.all_refused("bo 1x1 Kind a", "bo 1x1 KIND a", "bo 1x1 Wide 1", "bo 1x1 GAP 1", "bo 1x1 Worth 1", "bo 1x1 kinds a",
                         "bo 1x1 widths 1", "bo 1x1 gaps 1", "bo 1x1 w 1", "bo 1x1 name a", "bo 1x1 depth 1", "bo 1x1 kind=a")

    def test_texts_that_are_none_at_all(self):
        self.all_refused("", "bo", "1x1", "x", "ann,3,2", "('bo', 1, 1, '', 0, 0, 0, ())", "..\n..", "a" * 2000, "row " * 500)

    def test_things_that_are_no_texts(self):
        for thing in NO_TEXTS + (ANN, list(ANN), [ANN_TEXT], {"bo": "1x1"}):
            self.refused(read_group, thing)

    def test_one_sign_changed(self):
        # Whatever is read is written back to the very same signs.
        for text in (ANN_TEXT, "bo 1x1", "cy 12x3 kind z wide 36 gap 6 worth 90 row 5 10"):
            for at in range(len(text)):
                for sign in "0129axz X-\n":
                    self.read_as_it_stands_or_refused(text[:at] + sign + text[at + 1:])
                self.read_as_it_stands_or_refused(text[:at] + text[at + 1:])

    def read_as_it_stands_or_refused(self, text):
        with self.subTest(text=text):
            try:
                group = read_group(text)
            except NoText:
                return
            self.assertTrue(is_group(group))
            self.assertEqual(show_group(group), text)

    def test_what_is_handed_in_stays(self):
        thing = ["bo 1x1", ["bo", "1x1"]]
        self.refused(read_group, thing)
        self.assertEqual(thing, ["bo 1x1", ["bo", "1x1"]])


if __name__ == "__main__":
    unittest.main()
