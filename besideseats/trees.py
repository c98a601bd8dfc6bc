"""Trees: what shows that no seating is worth more."""

from besideseats.best import best_worth
from besideseats.groups import worth_in
from besideseats.papers import all_places, begins_with, is_each, is_waiting, spots_of
from besideseats.rooms import fast_seating, with_place
from besideseats.seatings import worth_of


def still_waiting(seating, left):
    return [k for k in range(len(seating)) if seating[k] is None and k not in left]


def most_from(groups, places, seating, left):
    most = worth_of(groups, seating)
    for k in still_waiting(seating, left):
        worths = [worth_in(groups[k], place[0]) for place in spots_of(groups, places, seating, k)]
        most += max(worths, default=0)
    return most


def bounds_beside(groups, places, number, seating, left, tree):
    if begins_with(tree, "end", 1):
        return most_from(groups, places, seating, left) <= number
    # Each step down seats one more or leaves it out, so none goes deeper than there are groups.
    if not is_each(tree) or not is_waiting(seating, tree[1]) or tree[1] in left:
        return False
    k = tree[1]
    spots = spots_of(groups, places, seating, k)
    if len(tree[2]) != len(spots) + 1:
        return False
    for place, inner in zip(spots, tree[2]):
        if not bounds_beside(groups, places, number, with_place(seating, k, place), left, inner):
            return False
    return bounds_beside(groups, places, number, seating, left + (k,), tree[2][-1])


def bounds(hall, groups, number, tree, fast=None):
    seating = fast_seating(hall, groups, fast)
    return bounds_beside(groups, all_places(hall, groups), number, seating, (), tree)


def tree_beside(groups, places, number, seating, left):
    # Where nobody waits any more this is the seating's own worth, so here it ends at the latest.
    if most_from(groups, places, seating, left) <= number:
        return ("end",)
    k = still_waiting(seating, left)[0]
    trees = []
    for place in spots_of(groups, places, seating, k):
        trees.append(tree_beside(groups, places, number, with_place(seating, k, place), left))
    trees.append(tree_beside(groups, places, number, seating, left + (k,)))
    return ("each", k, tuple(trees))


def tree_of(hall, groups, fast=None):
    number = best_worth(hall, groups, fast)
    return tree_beside(groups, all_places(hall, groups), number, fast_seating(hall, groups, fast), ())
