import itertools
import unittest

from besideseats.best import best_of_all, best_of_some, best_worth
from besideseats.groups import worth_in
from besideseats.seatings import keeps
from trials import BETTER_ALONE, SIXTY, fasts_of, group, order_of, seatings_by_trial, small_cases


def worth_by_hand(groups, seating):
    return sum(worth_in(one, place[0]) for one, place in zip(groups, seating) if place is not None)


def best_by_trial(hall, groups, fast, some):
    seatings = seatings_by_trial(hall, groups, fast, some)
    most = max([worth_by_hand(groups, seating) for seating in seatings], default=None)
    best = [seating for seating in seatings if worth_by_hand(groups, seating) == most]
    return min(best, key=order_of, default=None)


class Best(unittest.TestCase):
    def told(self, hall, groups, of_all, of_some, worth, fast=None):
        with self.subTest(hall=hall, groups=groups, fast=fast):
            self.assertEqual(best_of_all(hall, groups, fast), of_all)
            self.assertEqual(best_of_some(hall, groups, fast), of_some)
            self.assertEqual(best_worth(hall, groups, fast), worth)
            self.assertEqual(best_of_all(hall, groups, fast=fast), of_all)
            self.assertEqual(best_of_some(hall, groups, fast=fast), of_some)
            self.assertIs(type(best_worth(hall, groups, fast=fast)), int)

    def test_no_groups(self):
        for hall in ((".",), ("#",)):
            self.told(hall, (), (), (), 0)
            self.told(hall, (), (), (), 0, ())

    def test_nobody_can_sit(self):
        self.told(("#",), (group("a", 1, 1, 0, 5),), None, (None,), 0)
        self.told(("..",), (group("a", 3, 1, 0, 5), group("b", 1, 2, 0, 5)), None, (None, None), 0)

    def test_most_worth(self):
        hall = ("..", "..")
        self.told(hall, (group("a", 1, 1, 0, 5, ((1, 1),)),), ((1, 0),), ((1, 0),), 6)
        self.told(hall, (group("a", 1, 1, 0, 5, ((0, 1),)),), ((0, 0),), ((0, 0),), 6)
        self.told(hall, (group("a", 2, 1, 0, 5, ((1, 3),)), group("b", 2, 1, 0, 1, ((1, 2),))),
                  ((1, 0), (0, 0)), ((1, 0), (0, 0)), 9)
        self.told(hall, (group("a", 2, 1, 0, 5, ((1, 2),)), group("b", 2, 1, 0, 1, ((1, 3),))),
                  ((0, 0), (1, 0)), ((0, 0), (1, 0)), 9)

    def test_some_stay_out(self):
        hall = ("..",)
        self.told(hall, (group("a", 2, 1, 0, 5), group("b", 1, 1, 0, 4)), None, ((0, 0), None), 5)
        self.told(hall, (group("a", 2, 1, 0, 4), group("b", 1, 1, 0, 5)), None, (None, (0, 0)), 5)
        self.told(hall, (group("a", 2, 1, 0, 5), group("b", 1, 1, 0, 3), group("c", 1, 1, 0, 3)),
                  None, (None, (0, 0), (0, 1)), 6)
        self.told(hall, (group("a", 3, 1, 0, 99), group("b", 1, 1, 0, 1)), None, (None, (0, 0)), 1)

    def test_one_may_stay_out_of_the_best_though_there_is_room_for_all(self):
        # In the one seat of row 1 b is worth more than both together elsewhere.
        self.told(BETTER_ALONE[0], BETTER_ALONE[1], ((0, 0), (0, 1)), (None, (1, 0)), 10)

    def test_of_several_the_least(self):
        self.told(("...",), (group("a", 1, 1, 0, 5), group("b", 1, 1, 0, 5)), ((0, 0), (0, 1)), ((0, 0), (0, 1)), 10)
        self.told(("..",), (group("a", 2, 1, 0, 5), group("b", 2, 1, 0, 5)), None, ((0, 0), None), 5)
        self.told(("...",), (group("a", 2, 1, 0, 5), group("b", 2, 1, 0, 5), group("c", 3, 1, 0, 5)),
                  None, ((0, 0), None, None), 5)
        # The first one sits as early as it can, though the second one sits later for it.
        self.told((".#.", "..."), (group("a", 1, 1, 0, 1), group("b", 1, 2, 0, 1)), ((0, 0), (0, 2)), ((0, 0), (0, 2)), 2)

    def test_a_place_comes_ahead_of_none_where_the_worth_is_the_same(self):
        self.told(("..",), (group("a"), group("b")), ((0, 0), (0, 1)), ((0, 0), (0, 1)), 0)
        self.told((".",), (group("a"), group("b")), None, ((0, 0), None), 0)
        self.told((".",), (group("a"), group("b", 1, 1, 0, 1)), None, (None, (0, 0)), 1)
        self.told(("..",), (group("a", 2), group("b", 1, 1, 0, 1)), None, (None, (0, 0)), 1)
        self.told(("...",), (group("a"), group("b", 1, 1, 1, 1)), ((0, 0), (0, 2)), ((0, 0), (0, 2)), 1)
        # A greater place of one of no worth is still ahead of None, a lesser one of the next does not count.
        self.told(("#.", ".."), (group("a", 2), group("b", 1, 1, 0, 1)), ((1, 0), (0, 1)), ((1, 0), (0, 1)), 1)

    def test_wishes_of_the_first_of_its_rows(self):
        hall = ("..",) * 3
        self.told(hall, (group("a", 1, 2, 0, 1, ((1, 5),)),), ((1, 0),), ((1, 0),), 6)
        self.told(hall, (group("a", 1, 2, 0, 1, ((2, 5),)),), ((0, 0),), ((0, 0),), 1)
        self.told(hall, (group("a", 1, 3, 0, 0, ((1, 5), (2, 9))),), ((0, 0),), ((0, 0),), 0)
        self.told(hall, (group("a", 1, 2, 0, 0, ((0, 5), (1, 5))),), ((0, 0),), ((0, 0),), 5)

    def test_fast_ones_that_cost_worth(self):
        hall = ("..", "..")
        a, b = group("a", 1, 1, 0, 1, ((1, 4),)), group("b", 2, 1, 0, 3)
        self.told(hall, (a, b), ((1, 0), (0, 0)), ((1, 0), (0, 0)), 8)
        self.told(hall, (a, b), ((0, 1), (1, 0)), ((0, 1), (1, 0)), 4, ((0, 1), None))
        self.told(hall, (a, b), ((0, 0), (1, 0)), ((0, 0), (1, 0)), 4, (None, (1, 0)))
        self.told(hall, (a, b), ((0, 1), (1, 0)), ((0, 1), (1, 0)), 4, ((0, 1), (1, 0)))
        # Who sits fast is not left out, though another one would be worth more.
        self.told((".",), (group("a"), group("b", 1, 1, 0, 9)), None, ((0, 0), None), 0, ((0, 0), None))
        self.told(("...",), (group("a"), group("b", 2, 1, 0, 9)), None, ((0, 1), None), 0, ((0, 1), None))

    def test_worths_of_sixty_figures(self):
        hall = ("..", "..")
        one = group("a", 1, 1, 0, SIXTY, ((1, SIXTY),))
        other = group("b", 1, 1, 0, SIXTY - 1, ((1, SIXTY),))
        self.told(hall, (one, other), ((1, 0), (1, 1)), ((1, 0), (1, 1)), 4 * SIXTY - 1)
        self.told((".",), (one, other), None, ((0, 0), None), SIXTY)
        self.told((".",), (other, one), None, (None, (0, 0)), SIXTY)
        six = tuple(group(name, 1, 1, 0, SIXTY, ((0, SIXTY),), name) for name in "abcdef")
        self.told(("abcdef",), six, tuple((0, k) for k in range(6)), tuple((0, k) for k in range(6)), 12 * SIXTY)

    def test_over_small_halls(self):
        apart = 0
        for hall, groups in small_cases():
            for fast in fasts_of(hall, groups):
                of_all, of_some = best_of_all(hall, groups, fast), best_of_some(hall, groups, fast)
                if of_all != best_by_trial(hall, groups, fast, False) or of_some != best_by_trial(hall, groups, fast, True):
                    self.fail((hall, groups, fast, of_all, of_some))
                self.assertEqual(best_worth(hall, groups, fast), worth_by_hand(groups, of_some))
                self.assertTrue(keeps(hall, groups, of_some))
                apart += of_all not in (None, of_some)
        # Now and then the two differ though there is room for all.
        self.assertGreater(apart, 0)

    def test_over_worths(self):
        hall = ("..", ".#")
        for worths in itertools.product((0, 1, 2), repeat=3):
            groups = tuple(group(name, 1, 1, 0, worth, ((1, 1),)) for name, worth in zip("abc", worths))
            groups = groups[:2] + (group("c", 2, 1, 0, worths[2]),)
            for fast in (None, (None, None, (0, 0)), ((0, 1), None, None)):
                self.told(hall, groups, best_by_trial(hall, groups, fast, False), best_by_trial(hall, groups, fast, True),
                          worth_by_hand(groups, best_by_trial(hall, groups, fast, True)), fast)


class Unchanged(unittest.TestCase):
    def test_asked_twice_the_same_comes(self):
        hall, groups, fast = ("..", ".."), (group("a", 1, 1, 1, 3), group("b", 1, 1, 0, 2, ((1, 1),))), (None, (0, 1))
        answers = [(best_of_all(hall, groups, fast), best_of_some(hall, groups, fast), best_worth(hall, groups, fast))
                   for time in range(3)]
        self.assertEqual(answers, [(((1, 0), (0, 1)), ((1, 0), (0, 1)), 5)] * 3)
        self.assertEqual((hall, fast), (("..", ".."), (None, (0, 1))))
        self.assertEqual(groups, (group("a", 1, 1, 1, 3), group("b", 1, 1, 0, 2, ((1, 1),))))


if __name__ == "__main__":
    unittest.main()
