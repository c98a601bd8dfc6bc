import itertools
import unittest

from besideseats.papers import lets_by, paper_of
from besideseats.rooms import first_of_all, open_places
from trials import STRANGE, fasts_of, group, seatings_by_trial, small_cases


def let_by_as_told(hall, groups, paper, seating):
    # Of well made papers alone; whether k is the number of a group is asked by hand.
    k = paper[1]
    if k not in range(len(groups)) or seating[k] is not None:
        return False
    places = open_places(hall, groups, seating, k)
    if paper[0] == "stuck":
        return not places
    beside = [seating[:k] + (place,) + seating[k + 1:] for place in places]
    if len(beside) != len(paper[2]):
        return False
    return all(let_by_as_told(hall, groups, inner, one) for inner, one in zip(paper[2], beside))


def all_papers(numbers, most, depth):
    flat = [("stuck", k) for k in numbers]
    inner = all_papers(numbers, most, depth - 1) if depth > 0 else []
    for k, many in itertools.product(numbers, range(most + 1)):
        flat.extend(("each", k, papers) for papers in itertools.product(inner, repeat=many))
    return flat


class LetsBy(unittest.TestCase):
    def told(self, hall, groups, paper, answer, fast=None):
        with self.subTest(hall=hall, groups=groups, paper=paper, fast=fast):
            self.assertIs(lets_by(hall, groups, paper, fast), answer)
            self.assertIs(lets_by(hall, groups, paper, fast=fast), answer)

    def test_stuck(self):
        hall = ("..", "##")
        groups = (group("a"), group("b", 3), group("c", 2))
        self.told(hall, groups, ("stuck", 1), True)
        self.told(hall, groups, ("stuck", 0), False)
        self.told(hall, groups, ("stuck", 2), False)

    def test_numbers_of_no_group(self):
        hall = ("#",)
        groups = (group("a"), group("b"))
        self.told(hall, groups, ("stuck", 0), True)
        self.told(hall, groups, ("stuck", 1), True)
        for k in (2, 3, -1, -2, 10 ** 60, -10 ** 60, True, False, "0", "a", "", None, 0.0, 1.0, (0,), [0]):
            self.told(hall, groups, ("stuck", k), False)
            self.told(hall, groups, ("each", k, ()), False)
        self.told(hall, (), ("stuck", 0), False)
        self.told(hall, (), ("stuck", -1), False)
        self.told(hall, (), ("each", 0, ()), False)

    def test_one_that_sits(self):
        hall = ("..",)
        groups = (group("a", 2), group("b"))
        self.told(hall, groups, ("stuck", 1), True, ((0, 0), None))
        self.told(hall, groups, ("stuck", 0), False, ((0, 0), None))
        self.told(hall, groups, ("each", 0, ()), False, ((0, 0), None))
        self.told(hall, groups, ("each", 0, (("stuck", 1),)), False, ((0, 0), None))
        self.told(hall, groups, ("each", 0, (("stuck", 1),)), True)
        self.told(hall, groups, ("each", 0, (("stuck", 0),)), False)
        self.told(hall, groups, ("each", 0, (("each", 0, ()),)), False)
        self.told(hall, groups, ("each", 0, (("each", 0, (("stuck", 1),)),)), False)

    def test_all_sit(self):
        groups = (group("a"), group("b"))
        for paper in all_papers((0, 1), 2, 1):
            self.told(("..",), groups, paper, False, ((0, 0), (0, 1)))
            self.told(("..",), groups, paper, False)

    def test_as_many_papers_as_open_places(self):
        hall = ("...",)
        groups = (group("a", 1, 1, 1), group("b", 1, 1, 1), group("c"))
        inner = ("stuck", 1)
        right = ("each", 1, (("stuck", 2),))
        self.assertIs(lets_by(hall, groups, ("each", 0, (right, inner, right))), True)
        self.told(hall, groups, ("each", 0, ()), False)
        self.told(hall, groups, ("each", 0, (right,)), False)
        self.told(hall, groups, ("each", 0, (right, inner)), False)
        self.told(hall, groups, ("each", 0, (right, inner, right, right)), False)
        self.told(hall, groups, ("each", 0, (right, inner, right, None)), False)

    def test_papers_in_another_order(self):
        hall = ("...",)
        groups = (group("a", 1, 1, 1), group("b", 1, 1, 1), group("c"))
        inner = ("stuck", 1)
        right = ("each", 1, (("stuck", 2),))
        self.told(hall, groups, ("each", 0, (right, right, inner)), False)
        self.told(hall, groups, ("each", 0, (inner, right, right)), False)
        self.told(hall, groups, ("each", 0, (right, right, right)), False)
        self.told(hall, groups, ("each", 0, (inner, inner, inner)), False)

    def test_each_of_none(self):
        self.told(("#",), (group("a"),), ("each", 0, ()), True)
        self.told((".",), (group("a"),), ("each", 0, ()), False)
        self.told((".",), (group("a"), group("b")), ("each", 0, (("each", 1, ()),)), True)
        self.told((".",), (group("a"), group("b")), ("each", 1, (("each", 0, ()),)), True)
        self.told((".",), (group("a"), group("b")), ("each", 0, (("stuck", 1),)), True)

    def test_papers_within_papers(self):
        hall = ("..",)
        groups = (group("a"), group("b"), group("c"))
        within = (("each", 1, (("stuck", 2),)), ("each", 2, (("stuck", 1),)))
        self.told(hall, groups, ("each", 0, within), True)
        self.told(hall, groups, ("each", 0, within[:1] * 2), True)
        self.told(hall, groups, ("each", 0, (within[0], ("each", 1, (("stuck", 0),)))), False)
        self.told(hall, groups, ("each", 0, (within[0], ("each", 1, (("stuck", 1),)))), False)
        self.told(hall, groups, ("each", 0, (within[0], ("stuck", 1))), False)
        self.told(hall, groups, ("each", 0, (("each", 1, (("stuck", 3),)), within[1])), False)

    def test_of_places_that_are_wide_or_of_a_kind(self):
        hall = ("a=.",)
        groups = (group("a", 1, 1, 0, 0, (), "a"), group("b", 1, 1, 0, 0, (), "", 1), group("c", 2, 1, 0, 0, (), "a"))
        # b has the one wide seat, c then none beside it.
        self.told(hall, groups, ("each", 1, (("stuck", 2),)), True)
        self.told(hall, groups, ("each", 2, (("stuck", 1), ("stuck", 1))), True)
        self.told(hall, groups, ("each", 0, (("stuck", 2), ("stuck", 1), ("stuck", 1))), False)
        self.told(hall, groups, ("each", 0, (("each", 2, (("stuck", 1),)), ("stuck", 1), ("each", 2, (("stuck", 1),)))), True)

    def test_fast_ones(self):
        hall = ("...",)
        groups = (group("a"), group("b", 2))
        self.told(hall, groups, ("stuck", 1), True, ((0, 1), None))
        self.told(hall, groups, ("stuck", 1), False, ((0, 0), None))
        self.told(hall, groups, ("stuck", 1), False)
        self.told(hall, groups, ("each", 1, (("stuck", 0),)), False, ((0, 0), None))
        self.told(hall, groups, ("each", 0, (("stuck", 1),)), False, ((0, 1), None))
        self.told(hall, groups, ("stuck", 0), False, (None, (0, 0)))
        groups = (group("a"), group("b", 2), group("c"))
        self.told(hall, groups, ("each", 0, (("stuck", 2),)), True, (None, (0, 0), None))
        self.told(hall, groups, ("each", 2, (("stuck", 0),)), True, (None, (0, 0), None))

    def test_what_is_no_paper(self):
        for thing in STRANGE:
            for hall in ((".",), ("#",), ("...",)):
                for groups in ((), (group("a"),), (group("a"), group("b"))):
                    self.assertIs(lets_by(hall, groups, thing), False, (hall, groups))
                    self.assertIs(lets_by(hall, groups, thing, (None,) * len(groups)), False, (hall, groups))

    def test_what_is_no_paper_within_a_paper(self):
        hall = (".",)
        groups = (group("a"), group("b"))
        self.told(hall, groups, ("each", 0, (("stuck", 1),)), True)
        for thing in STRANGE:
            self.assertIs(lets_by(hall, groups, ("each", 0, (thing,))), False)
            self.assertIs(lets_by(hall, groups, ("each", 0, (("each", 1, (thing,)),))), False)
        self.told(hall, groups, ("each", 0, [("stuck", 1)]), False)
        self.told(hall, groups, ["each", 0, (("stuck", 1),)], False)
        self.told(hall, groups, ("each", 0, (["stuck", 1],)), False)
        self.told(hall, groups, ("each", 0, {("stuck", 1): True}), False)
        self.told(hall, groups, ("each", 0, ("stuck", 1)), False)
        self.told(hall, groups, ("each", 0, ("s",)), False)
        self.told(hall, groups, ("each", 0, "s"), False)

    def test_all_papers_of_a_size(self):
        many = [0, 0]
        papers = all_papers((0, 1, 2), 2, 1)
        for hall in (("#",), (".",), ("..",), ("#.", "#."), ("...",)):
            for widths in itertools.product((1, 2), (0, 1, 3)):
                groups = (group("a", widths[0]), group("b", 1, 1, widths[1]), group("c", 2))[:2 + widths[1] // 2]
                for fast in fasts_of(hall, groups):
                    room = seatings_by_trial(hall, groups, fast, False)
                    for paper in papers:
                        answer = lets_by(hall, groups, paper, fast)
                        told = let_by_as_told(hall, groups, paper, fast or (None,) * len(groups))
                        if answer is not told or (answer and room):
                            self.fail((hall, groups, fast, paper))
                        many[answer] += 1
        self.assertGreater(min(many), 50)


class PaperOf(unittest.TestCase):
    def test_no_groups(self):
        for hall in ((".",), ("#",)):
            self.assertIsNone(paper_of(hall, ()))
            self.assertIsNone(paper_of(hall, (), ()))

    def test_by_hand(self):
        self.assertIsNone(paper_of((".",), (group("a"),)))
        self.assertIn(paper_of(("#",), (group("a"),)), (("stuck", 0), ("each", 0, ())))
        self.assertIsNone(paper_of(("...",), (group("a"), group("b", 2))))
        self.assertIsNone(paper_of(("...",), (group("a"), group("b", 2)), ((0, 2), None)))
        self.assertIn(paper_of(("...",), (group("a"), group("b", 2)), ((0, 1), None)), (("stuck", 1), ("each", 1, ())))
        self.assertIsNone(paper_of(("...",), (group("a"), group("b", 2)), ((0, 0), (0, 1))))

    def test_over_small_halls(self):
        found = [0, 0]
        for hall, groups in small_cases():
            for fast in fasts_of(hall, groups):
                paper = paper_of(hall, groups, fast)
                room = seatings_by_trial(hall, groups, fast, False)
                self.assertIs(paper is None, len(room) > 0, (hall, groups, fast, paper))
                self.assertIs(paper is None, first_of_all(hall, groups, fast) is not None)
                if paper is not None:
                    self.assertIs(lets_by(hall, groups, paper, fast), True, (hall, groups, fast, paper))
                    self.assertIs(let_by_as_told(hall, groups, paper, fast or (None,) * len(groups)), True)
                found[paper is None] += 1
        self.assertGreater(min(found), 50)

    def test_six_that_have_no_room(self):
        hall = ("....", "#...")
        groups = tuple(group(name, 1, 1, 1) for name in "abcd") + (group("e", 5), group("f", 4, 2))
        self.assertIs(lets_by(hall, groups, paper_of(hall, groups, ((0, 0),) + (None,) * 5), ((0, 0),) + (None,) * 5), True)
        groups = tuple(group(name, 1, 1, 0, 0, (), "", 1) for name in "abcdef")
        hall = ("=#=.", ".#..")
        paper = paper_of(hall, groups)
        self.assertIs(lets_by(hall, groups, paper), True)
        self.assertIs(lets_by(("=#=.", "====") + hall, groups, paper), False)


class Unchanged(unittest.TestCase):
    def test_asked_twice_the_same_comes(self):
        hall, groups, fast = ("...",), (group("a"), group("b", 2)), ((0, 1), None)
        paper = ("stuck", 1)
        self.assertEqual([lets_by(hall, groups, paper, fast) for time in range(3)], [True] * 3)
        for time in range(3):
            self.assertIs(lets_by(hall, groups, paper_of(hall, groups, fast), fast), True)
        self.assertEqual((hall, fast, paper), (("...",), ((0, 1), None), ("stuck", 1)))
        self.assertEqual(groups, (group("a"), group("b", 2)))

    def test_lists_handed_in_as_papers_stay(self):
        hall, groups = (".",), (group("a"), group("b"))
        thing = ["each", 0, [["stuck", 1]]]
        self.assertIs(lets_by(hall, groups, thing), False)
        self.assertEqual(thing, ["each", 0, [["stuck", 1]]])


if __name__ == "__main__":
    unittest.main()
