"""Papers: what shows that there is no room for all."""

from besideseats.places import places_of
from besideseats.plain import is_whole_within
from besideseats.rooms import fast_seating, first_of_all, open_among, with_place
from besideseats.seatings import those_that_sit


def all_places(hall, groups):
    return [places_of(hall, group) for group in groups]


def spots_of(groups, places, seating, k):
    return open_among(places[k], groups[k], those_that_sit(groups, seating))


def is_waiting(seating, thing):
    return is_whole_within(thing, 0, len(seating) - 1) and seating[thing] is None


def begins_with(thing, word, length):
    if not isinstance(thing, tuple) or len(thing) != length:
        return False
    return isinstance(thing[0], str) and thing[0] == word


def is_each(thing):
    return begins_with(thing, "each", 3) and isinstance(thing[2], tuple)


def lets_by_beside(groups, places, seating, paper):
    if not begins_with(paper, "stuck", 2) and not is_each(paper):
        return False
    # Each step down seats one more, so none goes deeper than there are groups.
    if not is_waiting(seating, paper[1]):
        return False
    k = paper[1]
    spots = spots_of(groups, places, seating, k)
    papers = paper[2] if is_each(paper) else ()
    if len(papers) != len(spots):
        return False
    for place, inner in zip(spots, papers):
        if not lets_by_beside(groups, places, with_place(seating, k, place), inner):
            return False
    return True


def lets_by(hall, groups, paper, fast=None):
    seating = fast_seating(hall, groups, fast)
    return lets_by_beside(groups, all_places(hall, groups), seating, paper)


def paper_beside(groups, places, seating):
    waiting = [k for k in range(len(groups)) if seating[k] is None]
    # Who has the fewest spots is soonest stuck, so the paper stays short.
    k = min(waiting, key=lambda j: len(spots_of(groups, places, seating, j)))
    spots = spots_of(groups, places, seating, k)
    if spots == ():
        return ("stuck", k)
    papers = [paper_beside(groups, places, with_place(seating, k, place)) for place in spots]
    return ("each", k, tuple(papers))


def paper_of(hall, groups, fast=None):
    if first_of_all(hall, groups, fast) is not None:
        return None
    # There is no room for all, so on each way down somebody gets stuck.
    return paper_beside(groups, all_places(hall, groups), fast_seating(hall, groups, fast))
