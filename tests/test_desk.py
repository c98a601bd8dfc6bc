import itertools
import unittest

from besideseats.best import best_of_all
from besideseats.desk import Desk
from besideseats.errors import Full, NoGroup, NoHall, NoName, NoRow, NoText, SeatError, TooGreat, Twice
from besideseats.papers import lets_by
from besideseats.rooms import ways
from besideseats.seatings import keeps, worth_of
from besideseats.texts import show_group
from trials import SIXTY, STRANGE, group, order_of, seatings_by_trial

WIDE_ROW = ("............",)
SIX = tuple(group(name, 1, 1, 0, 0, (), name) for name in "abcdef")
SIX_HALL = ("abcdef",)

NO_HALLS = (
    None, 0, 1, True, "", ".", "...", (), [], ["."], {}, ("",), ("..", "."), (".",) * 7, ("." * 13,), ("A",), (".", None),
    (1,), (True,), ((".",),), ("%",), (". ",), ("-",), object(), 1.5, b".", (b".",), ([],),
)
NO_GROUPS = (
    (), group("a")[:7], group("a") + (0,), list(group("a")), group(""), group("Ann"), group("abcdefghi"), group("a1"),
    group("a", 0), group("a", 13), group("a", 1, 0), group("a", 1, 4), group("a", True), group("a", 1, 1, 7),
    group("a", 1, 1, -1), group("a", 1, 1, 0, -1), group("a", 1, 1, 0, SIXTY + 1), group("a", 1, 1, 0, 0, [(0, 1)]),
    group("a", 1, 1, 0, 0, ((0, 0),)), group("a", 1, 1, 0, 0, ((1, 1), (0, 1))), group("a", 1, 1, 0, 0, ((6, 1),)),
    group("a", 1, 1, 0, 0, (), "ab"), group("a", 1, 1, 0, 0, (), "A"), group("a", 1, 1, 0, 0, (), None),
    group("a", 1, 1, 0, 0, (), "", 2), group("a", 1, 1, 0, 0, (), "", -1), group(None), group(0), "a 1x1",
)
NO_NAMES = (
    None, 0, 1, True, "", "Ann", "ann ", " ann", "ann\n", "abcdefghi", "a1", "a b", (), ("ann",), ["ann"], {}, {"ann": 1},
    b"ann", 1.5, object(),
)


def filled(hall, groups):
    desk = Desk(hall)
    for one in groups:
        desk.ask(one)
    return desk


def state(desk):
    return (desk.at_hand(), desk.seating(), desk.worth(), desk.say("all"), desk.say("worth"))


class DeskTest(unittest.TestCase):
    def refused(self, desk, error, deed, *things):
        """The class itself, and nothing is changed by it."""
        before = state(desk)
        with self.assertRaises(error) as caught:
            deed(*things)
        self.assertEqual(type(caught.exception).__mro__, (error, SeatError) + ValueError.__mro__)
        self.assertEqual(state(desk), before)
        return caught.exception

    def told(self, desk, groups, seating):
        self.assertEqual(desk.at_hand(), groups)
        self.assertEqual(desk.seating(), seating)
        self.assertIs(type(desk.at_hand()), tuple)
        self.assertIs(type(desk.seating()), tuple)
        self.assertEqual(desk.worth(), worth_of(groups, seating))
        for one, place in zip(groups, seating):
            self.assertEqual(desk.where(one[0]), place)


class Made(DeskTest):
    def test_of_a_hall(self):
        for hall in ((".",), ("#",), ("." * 12,) * 6, (".=#az",)):
            self.told(Desk(hall), (), ())
            self.assertEqual(Desk(hall).worth(), 0)

    def test_of_anything_else(self):
        for thing in NO_HALLS + STRANGE[:26]:
            with self.assertRaises(NoHall) as caught:
                Desk(thing)
            self.assertEqual(type(caught.exception).__mro__, (NoHall, SeatError) + ValueError.__mro__)

    def test_two_desks_know_nothing_of_one_another(self):
        one, other = Desk((".",)), Desk((".",))
        one.ask(group("a"))
        self.told(one, (group("a"),), ((0, 0),))
        self.told(other, (), ())


class Asks(DeskTest):
    def test_answered_by_where_it_sits(self):
        desk = Desk(("...", "..."))
        self.assertEqual(desk.ask(group("ann", 2)), (0, 0))
        self.assertEqual(desk.ask(group("bo", 2)), (1, 0))
        self.assertEqual(desk.ask(group("cy", 1, 2)), (0, 2))
        self.told(desk, (group("ann", 2), group("bo", 2), group("cy", 1, 2)), ((0, 0), (1, 0), (0, 2)))

    def test_others_are_moved_for_it(self):
        desk = Desk(("...",))
        self.assertEqual(desk.ask(group("a")), (0, 0))
        self.assertEqual(desk.ask(group("b", 1, 1, 1)), (0, 2))
        desk = Desk(("..", ".#"))
        self.assertEqual(desk.ask(group("a")), (0, 0))
        self.assertEqual(desk.ask(group("b", 1, 2)), (0, 0))
        self.told(desk, (group("a"), group("b", 1, 2)), ((0, 1), (0, 0)))

    def test_all_at_hand_stay_seated_though_fewer_were_worth_more(self):
        desk = Desk(("..", ".#"))
        a, b = group("a", 1, 2, 0, 1), group("b", 1, 1, 0, 1, ((1, 9),))
        self.assertEqual(desk.ask(b), (1, 0))
        self.assertEqual(desk.worth(), 10)
        self.assertEqual(desk.ask(a), (0, 0))
        self.told(desk, (b, a), ((0, 1), (0, 0)))
        self.assertEqual(desk.worth(), 2)

    def test_no_group(self):
        for many in (0, 1, 6):
            desk = filled(SIX_HALL, SIX[:many])
            for thing in NO_GROUPS + STRANGE:
                self.refused(desk, NoGroup, desk.ask, thing)

    def test_no_group_ahead_of_twice(self):
        desk = filled(SIX_HALL, SIX[:1])
        self.refused(desk, Twice, desk.ask, group("a"))
        self.refused(desk, NoGroup, desk.ask, group("a", 0))
        self.refused(desk, NoGroup, desk.ask, list(group("a")))

    def test_twice(self):
        desk = filled(("...",), (group("a"), group("b")))
        for name in "ab":
            self.refused(desk, Twice, desk.ask, group(name))
            self.refused(desk, Twice, desk.ask, group(name, 2, 1, 3, 7))
        self.assertEqual(desk.ask(group("c")), (0, 2))

    def test_twice_ahead_of_six_at_hand(self):
        desk = filled(SIX_HALL, SIX)
        for one in SIX:
            self.refused(desk, Twice, desk.ask, one)
        # Of too many ways, or of no room, it comes first as well.
        desk = filled(WIDE_ROW, (group("a"), group("b")))
        self.refused(desk, Twice, desk.ask, group("a"))
        self.refused(desk, Twice, desk.ask, group("b", 12, 3))

    def test_six_at_hand(self):
        desk = filled(SIX_HALL, SIX)
        refusal = self.refused(desk, TooGreat, desk.ask, group("g", 1, 1, 0, 0, (), "a"))
        self.assertEqual((refusal.many, refusal.most), (7, 6))

    def test_six_at_hand_ahead_of_the_ways_and_of_no_room(self):
        hall = ("abcdef......",) + ("............",) * 5
        desk = Desk(hall)
        for one in SIX:
            desk.ask(one)
            if one[0] != "f":
                desk.fast(one[0])
        fast = desk.seating()[:5] + (None, None)
        self.assertEqual(ways(hall, SIX + (group("g"),), fast), 68 * 67)
        self.assertEqual(ways(hall, SIX + (group("g", 12, 3, 0, 0, (), "", 1),), fast), 68)
        for one in (group("g"), group("g", 12, 3, 0, 0, (), "", 1)):
            refusal = self.refused(desk, TooGreat, desk.ask, one)
            self.assertEqual((refusal.many, refusal.most), (7, 6))

    def test_too_many_ways(self):
        desk = filled(WIDE_ROW, (group("a"), group("b")))
        refusal = self.refused(desk, TooGreat, desk.ask, group("c"))
        self.assertEqual((refusal.many, refusal.most), (13 ** 3, 2000))
        refusal = self.refused(desk, TooGreat, desk.ask, group("c", 2))
        self.assertEqual((refusal.many, refusal.most), (13 * 13 * 12, 2000))
        self.assertEqual(desk.ask(group("c", 3)), (0, 2))
        self.assertEqual(ways(WIDE_ROW, desk.at_hand()), 13 * 13 * 11)

    def test_too_many_ways_ahead_of_no_room(self):
        desk = filled(("............",) * 2, (group("a", 1, 1, 6), group("b", 1, 1, 6)))
        refusal = self.refused(desk, TooGreat, desk.ask, group("c", 10, 2, 6))
        self.assertEqual((refusal.many, refusal.most), (25 * 25 * 4, 2000))
        desk = filled(("." * 12,) * 6, (group("a"),))
        refusal = self.refused(desk, TooGreat, desk.ask, group("b", 1, 1, 0, 0, (), "", 0))
        self.assertEqual((refusal.many, refusal.most), (73 * 73, 2000))

    def test_with_some_fast_the_ways_are_fewer(self):
        desk = filled(WIDE_ROW, (group("a"), group("b")))
        desk.fast("b")
        self.assertEqual(desk.ask(group("c")), (0, 2))
        desk.fast("a")
        self.assertEqual(desk.ask(group("d")), (0, 3))
        refusal = self.refused(desk, TooGreat, desk.ask, group("e"))
        self.assertEqual((refusal.many, refusal.most), (13 ** 3, 2000))

    def test_full(self):
        desk = filled(("...",), (group("a"), group("b", 2)))
        for one in (group("c"), group("c", 2), group("c", 4), group("c", 1, 2)):
            refusal = self.refused(desk, Full, desk.ask, one)
            self.assertIs(lets_by(("...",), desk.at_hand() + (one,), refusal.paper), True)

    def test_full_beside_those_that_sit_fast(self):
        desk = filled(("...",), (group("a"),))
        desk.ask(group("b", 1, 1, 0, 5))
        desk.fast("b")
        self.assertEqual(desk.seating(), ((0, 0), (0, 1)))
        one = group("c", 2)
        refusal = self.refused(desk, Full, desk.ask, one)
        groups = desk.at_hand() + (one,)
        self.assertIs(lets_by(("...",), groups, refusal.paper, (None, (0, 1), None)), True)
        desk.away("a")
        refusal = self.refused(desk, Full, desk.ask, one)
        self.assertIs(lets_by(("...",), (groups[1], one), refusal.paper, ((0, 1), None)), True)
        # Were b not fast there would be room.
        self.assertIs(lets_by(("...",), (groups[1], one), refusal.paper), False)


class Names(DeskTest):
    def test_no_name(self):
        for groups in ((), (group("ann"), group("a"))):
            desk = filled(("...",), groups)
            for thing in NO_NAMES + STRANGE:
                for deed in (desk.fast, desk.away, desk.where):
                    self.refused(desk, NoName, deed, thing)

    def test_a_name_that_is_not_at_hand(self):
        desk = filled(("...",), (group("ann"), group("bo")))
        for name in ("a", "an", "anna", "cy", "b", "abcdefgh"):
            for deed in (desk.fast, desk.away, desk.where):
                self.refused(desk, NoName, deed, name)
        desk.away("ann")
        for deed in (desk.fast, desk.away, desk.where):
            self.refused(desk, NoName, deed, "ann")
        self.assertEqual(desk.where("bo"), (0, 0))

    def test_one_that_was_refused_is_not_at_hand(self):
        desk = filled((".",), (group("a"),))
        self.refused(desk, Full, desk.ask, group("b"))
        for deed in (desk.fast, desk.away, desk.where):
            self.refused(desk, NoName, deed, "b")


class FastAndAway(DeskTest):
    def test_they_give_nothing_back(self):
        desk = filled(("...",), (group("a"), group("b")))
        self.assertIsNone(desk.fast("a"))
        self.assertIsNone(desk.fast("a"))
        self.assertIsNone(desk.away("a"))

    def test_who_sits_fast_is_not_moved(self):
        moved, held = Desk(("..", ".#")), Desk(("..", ".#"))
        for desk in (moved, held):
            desk.ask(group("a"))
        held.fast("a")
        moved.ask(group("b", 1, 2))
        self.assertEqual(moved.where("a"), (0, 1))
        refusal = self.refused(held, Full, held.ask, group("b", 1, 2))
        self.assertIs(lets_by(("..", ".#"), (group("a"), group("b", 1, 2)), refusal.paper, ((0, 0), None)), True)
        self.assertEqual(held.ask(group("b")), (0, 1))
        self.assertEqual(held.where("a"), (0, 0))

    def test_fast_where_it_sits_then(self):
        desk = filled(("...",), (group("a"), group("b")))
        desk.fast("b")
        desk.away("a")
        self.assertEqual(desk.where("b"), (0, 1))
        self.assertEqual(desk.ask(group("c")), (0, 0))
        desk.away("c")
        self.refused(desk, Full, desk.ask, group("c", 2))

    def test_told_twice_it_changes_nothing(self):
        desk = filled(("....",), (group("a"), group("b"), group("c")))
        desk.fast("b")
        desk.away("a")
        before = state(desk)
        self.assertEqual(desk.seating(), ((0, 1), (0, 0)))
        desk.fast("b")
        desk.fast("b")
        self.assertEqual(state(desk), before)
        desk.away("c")
        self.assertEqual(desk.seating(), ((0, 1),))

    def test_others_may_be_moved_when_one_goes_away(self):
        desk = filled(("...",), (group("a"), group("b"), group("c")))
        desk.away("a")
        self.told(desk, (group("b"), group("c")), ((0, 0), (0, 1)))
        desk.away("c")
        self.told(desk, (group("b"),), ((0, 0),))
        desk.away("b")
        self.told(desk, (), ())

    def test_the_others_fast_stay_theirs_when_one_goes_away(self):
        desk = filled(("....",), (group("a"), group("b"), group("c"), group("d")))
        desk.fast("c")
        desk.away("a")
        self.told(desk, (group("b"), group("c"), group("d")), ((0, 0), (0, 2), (0, 1)))
        desk.away("b")
        self.told(desk, (group("c"), group("d")), ((0, 2), (0, 0)))

    def test_who_goes_away_and_asks_again_is_not_fast_any_more(self):
        desk = filled(("...",), (group("a"), group("b")))
        desk.fast("b")
        desk.away("b")
        desk.away("a")
        self.assertEqual(desk.ask(group("b")), (0, 0))
        self.assertEqual(desk.ask(group("c", 2)), (0, 1))
        desk = filled(("...",), (group("a"), group("b")))
        desk.fast("b")
        desk.away("b")
        self.assertEqual(desk.ask(group("b")), (0, 1))
        desk.away("a")
        self.assertEqual(desk.where("b"), (0, 0))

    def test_who_asks_again_stands_behind_the_others(self):
        desk = filled(("...",), (group("a"), group("b")))
        desk.away("a")
        desk.ask(group("a"))
        self.told(desk, (group("b"), group("a")), ((0, 0), (0, 1)))

    def test_with_one_away_there_is_room_again(self):
        desk = filled(SIX_HALL, SIX)
        desk.away("c")
        self.assertEqual(desk.ask(group("g", 1, 1, 0, 0, (), "c")), (0, 2))
        self.assertEqual([one[0] for one in desk.at_hand()], ["a", "b", "d", "e", "f", "g"])


class Deeds(DeskTest):
    """All rows of deeds of a length, held against a desk that goes through all seatings."""

    def best_by_trial(self, hall, groups, fast):
        seatings = seatings_by_trial(hall, groups, fast, False)
        most = max([worth_of(groups, seating) for seating in seatings], default=None)
        return min([one for one in seatings if worth_of(groups, one) == most], key=order_of, default=None)

    def walk(self, hall, guests, deeds):
        desk, groups, fast, seating = Desk(hall), (), (), ()
        for word, k in deeds:
            names = [one[0] for one in groups]
            name = guests[k][0]
            if word == "ask" and name not in names:
                asking = (hall, groups + (guests[k],), fast + (None,))
                told = self.best_by_trial(*asking)
                if ways(*asking) > 2000:
                    refusal = self.refused(desk, TooGreat, desk.ask, guests[k])
                    self.assertEqual((refusal.many, refusal.most), (ways(*asking), 2000))
                elif told is None:
                    refusal = self.refused(desk, Full, desk.ask, guests[k])
                    self.assertIs(lets_by(asking[0], asking[1], refusal.paper, asking[2]), True)
                else:
                    groups, fast, seating = asking[1], asking[2], told
                    self.assertEqual(desk.ask(guests[k]), told[-1])
            elif word == "ask":
                self.refused(desk, Twice, desk.ask, guests[k])
            elif name not in names:
                self.refused(desk, NoName, desk.fast if word == "fast" else desk.away, name)
            elif word == "fast":
                j = names.index(name)
                fast = fast[:j] + (seating[j],) + fast[j + 1:]
                desk.fast(name)
            else:
                j = names.index(name)
                groups, fast = groups[:j] + groups[j + 1:], fast[:j] + fast[j + 1:]
                seating = self.best_by_trial(hall, groups, fast)
                desk.away(name)
            self.told(desk, groups, seating)
            self.assertEqual(seating, best_of_all(hall, groups, fast))
            self.assertIs(keeps(hall, groups, seating), True)

    def test_all_rows_of_four_deeds(self):
        guests = (group("a", 1, 1, 0, 2), group("b", 1, 2, 0, 1, ((0, 3),)))
        deeds = [(word, k) for word in ("ask", "fast", "away") for k in range(2)]
        for hall in (("..", ".#"), (".", ".")):
            for row in itertools.product(deeds, repeat=4):
                self.walk(hall, guests, row)

    def test_long_rows_of_deeds(self):
        guests = (
            group("a", 1, 1, 0, 2), group("b", 1, 2, 0, 1, ((0, 3),)), group("c", 2, 1, 1, 4),
            group("d", 1, 1, 0, 0, ((1, 5),)), group("e", 1, 1, 1, 1),
        )
        words = ("ask", "ask", "fast", "ask", "away", "ask")
        for start, step in itertools.product(range(0, 30, 3), (7, 11, 13, 17)):
            deeds = [(words[(start + step * k) % 6 if k > 4 else 0], (start + 3 * k + k * k // 2) % 5) for k in range(24)]
            self.walk(("....", ".#.."), guests, deeds)


class Says(DeskTest):
    def say(self, desk, row, answer):
        with self.subTest(row=row):
            self.assertEqual(desk.say(row), answer)

    def test_each_row(self):
        desk = Desk(("...", "..."))
        self.say(desk, "all", "nobody")
        self.say(desk, "worth", "0")
        self.say(desk, "ask ann 2x1 worth 5 row 1 2", "1 0")
        self.say(desk, "ask bo 1x2", "0 2")
        self.say(desk, "where ann", "1 0")
        self.say(desk, "where bo", "0 2")
        self.say(desk, "all", "ann 1 0; bo 0 2")
        self.say(desk, "worth", "7")
        self.say(desk, "fast bo", "ok")
        self.say(desk, "fast bo", "ok")
        self.say(desk, "away ann", "ok")
        self.say(desk, "all", "bo 0 2")
        self.say(desk, "worth", "0")
        self.say(desk, "away bo", "ok")
        self.say(desk, "all", "nobody")

    def test_it_is_done(self):
        desk = Desk(("...", "..."))
        ann = group("ann", 2, 1, 1, 5, ((1, 2),), "k")
        desk.say("ask " + show_group(ann))
        self.told(desk, (ann,), ((1, 0),))
        desk.ask(group("bo"))
        desk.say("fast bo")
        desk.say("away ann")
        self.told(desk, (group("bo"),), ((0, 0),))

    def test_fast_is_said(self):
        desk = Desk(("...",))
        for row in ("ask a 1x1", "ask b 1x1", "fast b", "away a"):
            desk.say(row)
        self.say(desk, "where b", "0 1")

    def test_rows_and_columns_of_two_figures(self):
        desk = Desk(("#" * 11 + ".",) * 6)
        self.say(desk, "ask a 1x1 row 5 1", "5 11")
        self.say(desk, "where a", "5 11")
        self.say(desk, "all", "a 5 11")

    def test_six_in_order(self):
        desk = Desk(SIX_HALL)
        for one in reversed(SIX):
            desk.say("ask " + show_group(one))
        self.say(desk, "all", "f 0 5; e 0 4; d 0 3; c 0 2; b 0 1; a 0 0")

    def test_worths_of_sixty_figures_and_more(self):
        desk = Desk(("..",))
        desk.say("ask a 1x1 worth " + "9" * 60 + " row 0 " + "9" * 60)
        self.say(desk, "worth", "1" + "9" * 59 + "8")
        desk.say("ask b 1x1 worth 2")
        self.say(desk, "worth", "2" + "0" * 60)
        self.assertEqual(desk.worth(), 2 * 10 ** 60)

    def test_no_row(self):
        rows = [None, 0, 1, True, False, (), [], {}, ("all",), ["all"], b"all", 1.5, object(), ("ask", "a 1x1"), group("a")]
        rows += ["", " ", "  ", "ask", "fast", "away", "where", "ann", "nobody", "ok", "say", "seating", "at_hand", "al"]
        rows += ["all ", " all", "all a", "all all", "worth ", " worth", "worth ann", "worth 0", "all\n", "worth\n", "\nall"]
        rows += [" ask a 1x1", " fast ann", " away ann", " where ann", "  where ann", "asks a 1x1", "as a 1x1", "a 1x1"]
        rows += ["All", "ALL", "Worth", "Ask a 1x1", "ASK a 1x1", "Fast ann", "AWAY ann", "Where ann", "whereann", "aska 1x1"]
        rows += ["where\tann", "fast\nann", "all;", "all; worth", "worth;", "fast; ann", "ask, a 1x1", "-", "1 2", "wher ann"]
        rows += ["name ann", "fast,ann", "where:ann ", "do ask a 1x1", "number_of ann", "show_all", "fastt ann"]
        for groups in ((), (group("ann"),)):
            desk = filled(("...",), groups)
            for row in rows:
                with self.subTest(row=row):
                    self.refused(desk, NoRow, desk.say, row)

    def test_strange_rows(self):
        desk = filled(("...",), (group("ann"),))
        for thing in STRANGE:
            self.refused(desk, NoRow, desk.say, thing)

    def test_no_text_of_a_group(self):
        desk = filled(SIX_HALL, SIX)
        for text in ("", " ", "a", "a ", " a 1x1", "a 1x1 ", "a  1x1", "A 1x1", "a 1X1", "a 01x1", "a 0x1", "a 13x1", "a 1x4",
                     "a 1x1 kind", "a 1x1 kind A", "a 1x1 wide 0", "a 1x1 wide 2", "a 1x1 gap 7", "a 1x1 worth 0",
                     "a 1x1 gap 1 wide 1", "a 1x1 row 6 1", "a 1x1 row 1 1 row 0 1", "a 1x1\n", "a 1x1; b 1x1", "ask a 1x1"):
            with self.subTest(text=text):
                self.refused(desk, NoText, desk.say, "ask " + text)

    def test_name_is_all_behind_the_first_blank(self):
        desk = filled(("...",), (group("ann"),))
        for word in ("fast", "away", "where"):
            for text in ("", " ", " ann", "ann ", "ann ann", "Ann", "ann\n", "ann;", "ann 1x1", "bo", "annannann"):
                with self.subTest(word=word, text=text):
                    self.refused(desk, NoName, desk.say, word + " " + text)

    def test_refused_as_what_is_done_is(self):
        desk = filled(SIX_HALL, SIX)
        self.refused(desk, Twice, desk.say, "ask a 1x1")
        refusal = self.refused(desk, TooGreat, desk.say, "ask g 1x1")
        self.assertEqual((refusal.many, refusal.most), (7, 6))
        desk = filled(WIDE_ROW, (group("a"), group("b")))
        refusal = self.refused(desk, TooGreat, desk.say, "ask c 1x1")
        self.assertEqual((refusal.many, refusal.most), (2197, 2000))
        desk = filled((".",), (group("a"),))
        refusal = self.refused(desk, Full, desk.say, "ask b 1x1")
        self.assertIs(lets_by((".",), (group("a"), group("b")), refusal.paper), True)


class Unchanged(DeskTest):
    def test_nothing_handed_in_is_changed_and_asked_twice_the_same_comes(self):
        hall, one = ("...", "..."), group("ann", 2, 1, 1, 5, ((1, 2),))
        desk = filled(hall, (one, group("bo")))
        self.assertEqual([state(desk) for time in range(3)], [state(desk)] * 3)
        self.assertEqual([desk.where("ann") for time in range(3)], [(1, 0)] * 3)
        self.assertEqual((hall, one), (("...", "..."), group("ann", 2, 1, 1, 5, ((1, 2),))))
        thing = ["ann", 2, [1]]
        self.refused(desk, NoGroup, desk.ask, thing)
        self.refused(desk, NoName, desk.away, thing)
        self.refused(desk, NoRow, desk.say, thing)
        self.assertEqual(thing, ["ann", 2, [1]])

    def test_what_was_told_stays_when_the_desk_goes_on(self):
        desk = filled(("...",), (group("a"), group("b")))
        groups, seating = desk.at_hand(), desk.seating()
        desk.away("a")
        self.assertEqual((groups, seating), ((group("a"), group("b")), ((0, 0), (0, 1))))


if __name__ == "__main__":
    unittest.main()
