"""What is promised over the whole program, over small halls gone through by hand."""

import itertools
import unittest

from besideseats.best import best_of_all, best_of_some, best_worth
from besideseats.desk import Desk
from besideseats.errors import Full
from besideseats.holes import holes, users
from besideseats.lines import most_in, stakes
from besideseats.moves import alike, exchanged, mirrored, mirrored_seating, turned, turned_groups, turned_seating
from besideseats.papers import lets_by, paper_of
from besideseats.places import places_of
from besideseats.rooms import first_of_all
from besideseats.seatings import apart, keeps, worth_of
from besideseats.trees import bounds, tree_of
from trials import GUESTS, HALLS, fasts_of, group, seatings_by_trial, small_cases


def without(things, k):
    return things[:k] + things[k + 1:]


class Told(unittest.TestCase):
    def test_a_seating_that_is_told_keeps_all_rules(self):
        for hall, groups in small_cases():
            for fast in fasts_of(hall, groups):
                for asked in (first_of_all, best_of_all, best_of_some):
                    seating = asked(hall, groups, fast)
                    if seating is not None:
                        self.assertEqual(len(seating), len(groups))
                        self.assertIs(keeps(hall, groups, seating), True)
                        for place, held in zip(seating, fast or ()):
                            self.assertIn(held, (None, place))
                        self.assertTrue(asked is best_of_some or None not in seating)

    def test_none_is_worth_more_and_a_tree_shows_it(self):
        for hall, groups in small_cases():
            for fast in fasts_of(hall, groups):
                most = max(worth_of(groups, seating) for seating in seatings_by_trial(hall, groups, fast, True))
                self.assertEqual(best_worth(hall, groups, fast), most)
                self.assertEqual(worth_of(groups, best_of_some(hall, groups, fast)), most)
                tree = tree_of(hall, groups, fast)
                self.assertIs(bounds(hall, groups, most, tree, fast), True)
                self.assertIs(bounds(hall, groups, most - 1, tree, fast), False)
                self.assertLessEqual(self.leaves(tree), 2000)

    def leaves(self, tree):
        return 1 if tree == ("end",) else sum(self.leaves(inner) for inner in tree[2])

    def test_a_paper_just_where_there_is_no_room(self):
        papers = []
        for hall, groups in small_cases():
            for fast in fasts_of(hall, groups):
                room = seatings_by_trial(hall, groups, fast, False)
                paper = paper_of(hall, groups, fast)
                self.assertIs(paper is None, bool(room))
                if paper is not None and paper not in papers:
                    papers.append(paper)
        # The papers of all of them, held up where there is room.
        for hall, groups in small_cases()[::3]:
            if seatings_by_trial(hall, groups, None, False):
                for paper in papers:
                    self.assertIs(lets_by(hall, groups, paper), False)
        self.assertGreater(len(papers), 10)


class OneRow(unittest.TestCase):
    def test_as_many_as_fit_and_as_many_stakes(self):
        for signs, width, gap in itertools.product((".......", "..#....", "=.=..a.", "#######"), (1, 2, 3), (0, 1, 2)):
            one = group("a", width, 1, gap)
            hall = (signs, "." * 7)
            columns, met = most_in(hall, 0, one), stakes(hall, 0, one)
            places = [place for place in places_of(hall, one) if place[0] == 0]
            self.assertEqual(len(columns), len(met))
            for place in places:
                self.assertTrue(any(0 <= stake - place[1] <= width + gap - 1 for stake in met))
            for chosen in itertools.combinations(places, len(columns) + 1):
                self.assertFalse(all(apart(one, a, one, b) for a, b in itertools.combinations(chosen, 2)))


class Holes(unittest.TestCase):
    def test_a_hole_stays_one_till_nobody_can_come(self):
        for hall in HALLS:
            for coming in (GUESTS[:3], GUESTS[2:5], GUESTS[4:]):
                groups, seating = (), ()
                before = set(holes(hall, groups, seating, coming))
                uses = True
                while uses:
                    seats = itertools.product(range(len(hall)), range(len(hall[0])))
                    uses = [use for seat in seats for use in users(hall, groups, seating, coming, seat)]
                    for k, place in uses[-1:]:
                        groups, seating = groups + (coming[k],), seating + (place,)
                    after = set(holes(hall, groups, seating, coming))
                    self.assertLessEqual(before, after)
                    before = after


class Moves(unittest.TestCase):
    def test_one_that_goes_away_leaves_a_seating_that_keeps(self):
        for hall, groups in small_cases()[::2]:
            for seating in seatings_by_trial(hall, groups, None, True)[::4]:
                for k in range(len(groups)):
                    self.assertIs(keeps(hall, without(groups, k), without(seating, k)), True)
                    self.assertIs(keeps(hall, groups, seating[:k] + (None,) + seating[k + 1:]), True)

    def test_groups_that_are_alike_may_be_exchanged(self):
        for hall, (one, other) in itertools.product(HALLS, itertools.permutations(GUESTS, 2)):
            groups = (one, other, ("twin",) + one[1:])
            self.assertIs(alike(groups[0], groups[2]), True)
            best = best_of_some(hall, groups)
            self.assertIs(keeps(hall, groups, exchanged(best, 0, 2)), True)
            self.assertEqual(worth_of(groups, exchanged(best, 0, 2)), worth_of(groups, best))
            self.assertEqual(best_worth(hall, groups, exchanged(best, 0, 2)), best_worth(hall, groups))

    def test_read_otherwise_the_best_is_worth_the_same(self):
        for hall, groups in small_cases():
            others = turned_groups(hall, groups)
            for fast in fasts_of(hall, groups)[1:]:
                side, behind = mirrored_seating(hall, groups, fast), turned_seating(hall, groups, fast)
                most = best_worth(hall, groups, fast)
                self.assertEqual(best_worth(mirrored(hall), groups, side), most)
                self.assertEqual(best_worth(turned(hall), others, behind), most)
                room = first_of_all(hall, groups, fast) is None
                self.assertIs(first_of_all(mirrored(hall), groups, side) is None, room)
                self.assertIs(first_of_all(turned(hall), others, behind) is None, room)


class AtTheDesk(unittest.TestCase):
    def test_who_sits_fast_is_never_moved_and_who_is_refused_is_told_the_paper(self):
        refused = 0
        for hall, order in itertools.product(HALLS, itertools.permutations(range(5), 4)):
            desk, held = Desk(hall), {}
            for step, k in enumerate(order):
                try:
                    desk.ask(GUESTS[k])
                except Full as refusal:
                    refused += 1
                    fast = tuple(held.get(one[0]) for one in desk.at_hand()) + (None,)
                    self.assertIs(lets_by(hall, desk.at_hand() + (GUESTS[k],), refusal.paper, fast), True)
                    self.assertEqual(seatings_by_trial(hall, desk.at_hand() + (GUESTS[k],), fast, False), [])
                else:
                    if step % 2 == 0:
                        desk.fast(GUESTS[k][0])
                        held[GUESTS[k][0]] = desk.where(GUESTS[k][0])
                    if step == 2 and desk.at_hand()[0] is not GUESTS[k]:
                        held.pop(desk.at_hand()[0][0], None)
                        desk.away(desk.at_hand()[0][0])
                for name, place in held.items():
                    self.assertEqual(desk.where(name), place)
                self.assertIs(keeps(hall, desk.at_hand(), desk.seating()), True)
                fast = tuple(held.get(one[0]) for one in desk.at_hand())
                self.assertEqual(desk.seating(), best_of_all(hall, desk.at_hand(), fast))
        self.assertGreater(refused, 50)


if __name__ == "__main__":
    unittest.main()
