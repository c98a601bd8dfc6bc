import itertools
import unittest

from besideseats.best import best_worth
from besideseats.groups import worth_in
from besideseats.rooms import open_places
from besideseats.trees import bounds, tree_of
from trials import BETTER_ALONE, SIXTY, STRANGE, fasts_of, group, seatings_by_trial, small_cases

END = ("end",)


def worth_by_hand(groups, seating):
    return sum(worth_in(one, place[0]) for one, place in zip(groups, seating) if place is not None)


def let_by_as_told(hall, groups, number, tree, seating, left=frozenset()):
    # Of well made trees alone; whether k is the number of a group is asked by hand.
    waiting = [k for k in range(len(groups)) if seating[k] is None and k not in left]
    if tree == END:
        most = [max([0] + [worth_in(groups[k], place[0]) for place in open_places(hall, groups, seating, k)])
                for k in waiting]
        return worth_by_hand(groups, seating) + sum(most) <= number
    k = tree[1]
    if k not in waiting:
        return False
    beside = [(seating[:k] + (place,) + seating[k + 1:], left) for place in open_places(hall, groups, seating, k)]
    beside.append((seating, left | {k}))
    if len(beside) != len(tree[2]):
        return False
    return all(let_by_as_told(hall, groups, number, inner, one, out) for inner, (one, out) in zip(tree[2], beside))


def all_trees(numbers, most, depth):
    found = [END]
    inner = all_trees(numbers, most, depth - 1) if depth > 0 else []
    for k, many in itertools.product(numbers, range(most + 1)):
        found.extend(("each", k, trees) for trees in itertools.product(inner, repeat=many))
    return found


class Bounds(unittest.TestCase):
    def told(self, hall, groups, number, tree, answer, fast=None):
        with self.subTest(hall=hall, groups=groups, number=number, tree=tree, fast=fast):
            self.assertIs(bounds(hall, groups, number, tree, fast), answer)
            self.assertIs(bounds(hall, groups, number, tree, fast=fast), answer)

    def just(self, hall, groups, number, tree, fast=None):
        """Let by for the number and greater ones, and for no lesser one."""
        for beyond in (0, 1, 2, 10 ** 70):
            self.told(hall, groups, number + beyond, tree, True, fast)
        for beyond in (1, 2, 10 ** 70):
            self.told(hall, groups, number - beyond, tree, False, fast)

    def test_end_just_as_great_as_the_sum(self):
        self.just(("...",), (group("a", 1, 1, 0, 5), group("b", 2, 1, 0, 7)), 12, END)
        # Beside nobody each has a place, though there is no room for both.
        self.just((".",), (group("a", 1, 1, 0, 5), group("b", 1, 1, 0, 7)), 12, END)
        self.just((".",), (), 0, END)
        self.just((".",), (group("a"),), 0, END)

    def test_a_group_without_open_places_counts_nothing(self):
        self.just(("..",), (group("a", 1, 1, 0, 5), group("b", 3, 1, 0, 7)), 5, END)
        self.just(("#",), (group("a", 1, 1, 0, 5), group("b", 3, 1, 0, 7)), 0, END)
        self.just(("..",), (group("a", 1, 1, 0, 5), group("b", 2, 1, 0, 7)), 5, END, ((0, 0), None))
        self.just(("..",), (group("a", 1, 1, 1, 5), group("b", 1, 1, 0, 7)), 5, END, ((0, 0), None))

    def test_the_greatest_worth_over_the_first_rows_of_open_places(self):
        hall = ("..", "..", "..")
        one = group("a", 1, 1, 0, 5, ((0, 1), (1, 9), (2, 4)))
        self.just(hall, (one,), 14, END)
        self.just(hall[:1], (one,), 6, END)
        self.just(("..", "##", ".."), (one,), 9, END)
        self.just(hall, (one, group("b", 2)), 9, END, (None, (1, 0)))
        self.just(hall, (one, group("b", 2, 2)), 6, END, (None, (1, 0)))
        self.just(hall, (one, group("b", 2, 3)), 0, END, (None, (0, 0)))
        # In row 2 none of depth 2 begins, and its second row counts for nothing.
        self.just(hall, (group("a", 1, 2, 0, 5, ((0, 1), (2, 9))),), 6, END)
        self.just(hall, (group("a", 1, 3, 0, 5, ((1, 3), (2, 9))),), 5, END)

    def test_what_sits_fast_is_worth_its_row(self):
        hall = ("..", "..")
        one, other = group("a", 1, 1, 0, 5, ((1, 9),)), group("b", 1, 1, 0, 1)
        self.just(hall, (one, other), 15, END)
        self.just(hall, (one, other), 6, END, ((0, 0), None))
        self.just(hall, (one, other), 15, END, ((1, 0), None))
        self.just(hall, (one, other), 15, END, ((1, 0), (0, 0)))

    def test_one_left_out_counts_nothing(self):
        hall = (".",)
        groups = (group("a", 1, 1, 0, 5), group("b", 1, 1, 0, 7))
        self.just(hall, groups, 7, ("each", 0, (END, END)))
        self.just(hall, groups, 7, ("each", 1, (END, END)))
        self.just(hall, groups, 7, ("each", 0, (END, ("each", 1, (END, END)))))
        self.just(hall, groups[:1], 5, ("each", 0, (END, END)))

    def test_numbers_of_no_group(self):
        hall, groups = ("#",), (group("a"), group("b"))
        self.told(hall, groups, 0, ("each", 0, (END,)), True)
        self.told(hall, groups, 0, ("each", 1, (END,)), True)
        for k in (2, 3, -1, -2, 10 ** 60, -10 ** 60, True, False, "0", "a", "", None, 0.0, 1.0, (0,), [0]):
            self.told(hall, groups, 0, ("each", k, (END,)), False)
            self.told(hall, groups, 10 ** 69, ("each", 0, (("each", k, (END,)),)), False)
        self.told(hall, (), 0, ("each", 0, (END,)), False)
        self.told(hall, (), 0, ("each", -1, (END,)), False)

    def test_one_that_sits_or_is_left_out(self):
        hall, groups = (".",), (group("a", 1, 1, 0, 5), group("b", 1, 1, 0, 7))
        self.told(hall, groups, 99, ("each", 0, (END, END)), False, ((0, 0), None))
        self.told(hall, groups, 99, ("each", 0, (END,)), False, ((0, 0), None))
        self.told(hall, groups, 99, ("each", 1, (END,)), True, ((0, 0), None))
        self.told(hall, groups, 99, ("each", 1, (END, END)), False, ((0, 0), None))
        for again in (("each", 0, (END,)), ("each", 0, (END, END)), ("each", 0, ())):
            self.told(hall, groups, 99, ("each", 0, (again, END)), False)
            self.told(hall, groups, 99, ("each", 0, (END, again)), False)
            self.told(hall, groups, 99, ("each", 1, (again, END)), again == ("each", 0, (END,)))
            self.told(hall, groups, 99, ("each", 1, (END, again)), again == ("each", 0, (END, END)))

    def test_left_out_further_down_too(self):
        hall, groups = ("#",), tuple(group(name) for name in "abc")
        within = ("each", 1, (("each", 2, (END,)),))
        self.told(hall, groups, 0, ("each", 0, (within,)), True)
        for k in (0, 1):
            self.told(hall, groups, 0, ("each", 0, (("each", 1, (("each", k, (END,)),)),)), False)
        self.told(hall, groups, 0, ("each", 0, (("each", 1, (("each", 2, (("each", 0, (END,)),)),)),)), False)

    def test_one_tree_more_than_open_places(self):
        hall, groups = ("...",), (group("a", 2, 1, 0, 5), group("b", 1, 1, 0, 7))
        self.just(hall, groups, 12, ("each", 0, (END, END, END)))
        for many in (0, 1, 2, 4, 5):
            self.told(hall, groups, 99, ("each", 0, (END,) * many), False)
        self.told(hall, groups, 99, ("each", 0, (END, END, END, None)), False)
        self.told(hall, groups, 99, ("each", 0, (END, END, ())), False)

    def test_trees_in_another_order(self):
        hall = ("...",)
        groups = (group("a", 1, 1, 1, 1), group("b", 1, 1, 1, 1))
        # Beside a at its ends b has one place, in its middle none, without a three.
        ends, middle, without = ("each", 1, (END,) * 2), ("each", 1, (END,)), ("each", 1, (END,) * 4)
        right = (ends, middle, ends, without)
        self.just(hall, groups, 2, ("each", 0, right))
        for order in set(itertools.permutations(right)):
            self.told(hall, groups, 9, ("each", 0, order), order == right)

    def test_each_leaf_is_asked(self):
        hall = ("..", "..")
        groups = (group("a", 1, 1, 0, 1, ((1, 3),)), group("b", 2, 1, 0, 5, ((0, 2),)))
        # a in row 0 leaves b row 1: 1 and 5; in row 1 row 0: 4 and 7; without a 7.
        self.just(hall, groups, 11, ("each", 0, (END,) * 5))
        self.just(hall, groups, 11, ("each", 1, (END, END, END)))
        self.just(hall, groups, 6, END, ((0, 0), None))
        self.just(hall, groups, 11, END, ((1, 1), None))

    def test_the_last_is_asked_with_it_left_out(self):
        hall, groups = (".",), (group("a", 1, 1, 0, 0), group("b", 1, 1, 0, 7), group("c", 1, 1, 0, 4))
        self.just(hall, groups, 11, ("each", 0, (END, END)))
        self.just(hall, groups, 7, ("each", 0, (END, ("each", 1, (END, END)))))
        self.told(hall, groups, 7, ("each", 0, (("each", 1, (END, END)), END)), False)

    def test_fast_ones(self):
        hall, groups = ("...",), (group("a", 1, 1, 0, 5), group("b", 2, 1, 0, 7))
        self.just(hall, groups, 5, ("each", 1, (END,)), ((0, 1), None))
        self.just(hall, groups, 12, ("each", 1, (END, END)), ((0, 0), None))
        self.just(hall, groups, 12, END, ((0, 0), (0, 1)))
        self.told(hall, groups, 99, ("each", 0, (END,)), False, ((0, 0), (0, 1)))

    def test_numbers_below_nought_and_of_seventy_figures(self):
        seventy = 10 ** 70 - 1
        wishes = tuple((row, SIXTY) for row in range(6))
        groups = tuple(group(name, 1, 1, 0, SIXTY, wishes) for name in "abcdef")
        self.just(("." * 12,) * 6, groups, 12 * SIXTY, END)
        self.told(("." * 12,) * 6, groups, seventy, END, True)
        self.told(("." * 12,) * 6, groups, -seventy, END, False)
        for number, answer in ((0, True), (-1, False), (seventy, True), (-seventy, False)):
            self.told(("#",), (), number, END, answer)
            self.told(("#",), (group("a", 1, 1, 0, 5),), number, ("each", 0, (END,)), answer)

    def test_what_is_no_tree(self):
        for thing in STRANGE:
            for hall in ((".",), ("#",), ("...",)):
                for groups in ((), (group("a"),), (group("a"), group("b"))):
                    self.assertIs(bounds(hall, groups, 99, thing), False, (hall, groups))
                    self.assertIs(bounds(hall, groups, 99, thing, (None,) * len(groups)), False, (hall, groups))

    def test_what_is_no_tree_within_a_tree(self):
        hall, groups = (".",), (group("a"), group("b"))
        self.told(hall, groups, 0, ("each", 0, (END, END)), True)
        for thing in STRANGE + (("stuck", 0), ("stuck", 1)):
            self.assertIs(bounds(hall, groups, 99, ("each", 0, (thing, END))), False)
            self.assertIs(bounds(hall, groups, 99, ("each", 0, (END, thing))), False)
            self.assertIs(bounds(hall, groups, 99, ("each", 0, (("each", 1, (thing,)), END))), False)
        for thing in (["end"], "end", "e", {"end": 0}, ("end", 0), ("end", ()), (END,)):
            self.told(hall, groups, 99, ("each", 0, (END, thing)), False)
            self.told(hall, groups, 99, thing, False)
        self.told(hall, groups, 99, ["each", 0, (END, END)], False)
        self.told(hall, groups, 99, ("each", 0, [END, END]), False)
        self.told(hall, groups, 99, ("each", 0, {END: 0, 1: 0}), False)
        self.told(hall, groups, 99, ("each", 0, "ab"), False)
        self.told(hall, groups, 99, ("each", 0, END, END), False)

    def test_all_trees_of_a_size(self):
        many = [0, 0]
        trees = all_trees((0, 1), 3, 1) + [("each", 0, (END, one)) for one in all_trees((0, 1, 2), 2, 1)]
        for hall in (("#",), (".",), ("..",), ("#.", "#.")):
            for width, gap in itertools.product((1, 2), (0, 1)):
                groups = (group("a", width, 1, 0, 2, ((1, 1),)), group("b", 1, 1, gap, 3))
                for fast in fasts_of(hall, groups):
                    start = fast or (None, None)
                    most = max(worth_by_hand(groups, seating) for seating in seatings_by_trial(hall, groups, fast, True))
                    for tree, number in itertools.product(trees, range(-1, 8)):
                        answer = bounds(hall, groups, number, tree, fast)
                        if answer is not let_by_as_told(hall, groups, number, tree, start) or (answer and number < most):
                            self.fail((hall, groups, fast, number, tree))
                        many[answer] += 1
        self.assertGreater(min(many), 50)


class TreeOf(unittest.TestCase):
    def test_no_groups(self):
        for hall in ((".",), ("#",)):
            self.assertEqual(tree_of(hall, ()), END)
            self.assertEqual(tree_of(hall, (), ()), END)

    def test_let_by_for_the_best_worth_and_for_no_lesser_number(self):
        grown = 0
        for hall, groups in small_cases():
            for fast in fasts_of(hall, groups):
                tree, most = tree_of(hall, groups, fast), best_worth(hall, groups, fast)
                self.assertIs(bounds(hall, groups, most, tree, fast), True, (hall, groups, fast, tree))
                self.assertIs(bounds(hall, groups, most, tree_of(hall, groups, fast=fast), fast), True)
                self.assertIs(let_by_as_told(hall, groups, most, tree, fast or (None,) * len(groups)), True)
                for less in (1, 2, SIXTY):
                    self.assertIs(bounds(hall, groups, most - less, tree, fast), False, (hall, groups, fast, tree))
                grown += tree != END
        self.assertGreater(grown, 50)

    def test_one_may_stay_out(self):
        tree = tree_of(BETTER_ALONE[0], BETTER_ALONE[1])
        self.assertIs(bounds(BETTER_ALONE[0], BETTER_ALONE[1], 10, tree), True)
        self.assertIs(bounds(BETTER_ALONE[0], BETTER_ALONE[1], 9, tree), False)

    def test_worths_of_sixty_figures(self):
        hall = ("..",)
        groups = (group("a", 2, 1, 0, SIXTY), group("b", 1, 1, 0, SIXTY), group("c", 1, 1, 0, 1))
        tree = tree_of(hall, groups)
        self.assertIs(bounds(hall, groups, SIXTY + 1, tree), True)
        self.assertIs(bounds(hall, groups, SIXTY, tree), False)


class Unchanged(unittest.TestCase):
    def test_asked_twice_the_same_comes(self):
        hall, groups, fast = ("...",), (group("a", 1, 1, 0, 5), group("b", 2, 1, 0, 7)), (None, (0, 1))
        tree = ("each", 0, (END, END))
        self.assertEqual([bounds(hall, groups, 12, tree, fast) for time in range(3)], [True] * 3)
        for time in range(3):
            self.assertIs(bounds(hall, groups, 12, tree_of(hall, groups, fast), fast), True)
        self.assertEqual((hall, fast, tree), (("...",), (None, (0, 1)), ("each", 0, (("end",), ("end",)))))
        self.assertEqual(groups, (group("a", 1, 1, 0, 5), group("b", 2, 1, 0, 7)))

    def test_lists_handed_in_as_trees_stay(self):
        thing = ["each", 0, [["end"], ["end"]]]
        self.assertIs(bounds((".",), (group("a"),), 0, thing), False)
        self.assertEqual(thing, ["each", 0, [["end"], ["end"]]])


if __name__ == "__main__":
    unittest.main()
