"""Best: which seatings are worth most."""

from besideseats.rooms import seatings_from, small_start
from besideseats.seatings import worth_of


def best_among(groups, seatings):
    # They rise, and of several that are worth the same max tells the first.
    return max(seatings, key=lambda seating: worth_of(groups, seating), default=None)


def best_of_all(hall, groups, fast=None):
    start = small_start(hall, groups, fast)
    return best_among(groups, seatings_from(hall, groups, start, False))


def best_of_some(hall, groups, fast=None):
    start = small_start(hall, groups, fast)
    return best_among(groups, seatings_from(hall, groups, start, True))


def best_worth(hall, groups, fast=None):
    return worth_of(groups, best_of_some(hall, groups, fast))
