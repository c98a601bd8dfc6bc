"""Rooms: where one may sit beside others, and whether there is room for all."""

from besideseats.errors import NoSeating, TooGreat
from besideseats.places import places_of
from besideseats.seatings import apart_from_all, keeps, those_that_sit

MOST_WAYS = 2000


def fast_seating(hall, groups, fast):
    seating = (None,) * len(groups) if fast is None else fast
    if not keeps(hall, groups, seating):
        raise NoSeating("those that are told fast don't keep the hall")
    return seating


def ways(hall, groups, fast=None):
    many = 1
    for group, place in zip(groups, fast_seating(hall, groups, fast)):
        if place is None:
            many *= len(places_of(hall, group)) + 1
    return many


def small_start(hall, groups, fast):
    # The ways are asked first: they refuse fast, which is due ahead of TooGreat.
    many = ways(hall, groups, fast)
    if many > MOST_WAYS:
        raise TooGreat(many, MOST_WAYS)
    return fast_seating(hall, groups, fast)


def with_place(seating, k, place):
    return seating[:k] + (place,) + seating[k + 1:]


def open_among(places, group, seated):
    return tuple([place for place in places if apart_from_all(group, place, seated)])


def open_places(hall, groups, seating, k):
    # Its own place counts for nothing, and nobody is apart from themselves.
    others = those_that_sit(groups, with_place(seating, k, None))
    return open_among(places_of(hall, groups[k]), groups[k], others)


def with_one_more(hall, groups, seatings, k, some):
    places = places_of(hall, groups[k])
    wider = []
    for seating in seatings:
        seated = those_that_sit(groups, seating)
        wider.extend([with_place(seating, k, place) for place in open_among(places, groups[k], seated)])
        # Behind its places, as a place comes ahead of None.
        if some:
            wider.append(seating)
    return wider


def seatings_from(hall, groups, start, some):
    # Group by group, each at its places as they rise: so the seatings rise too.
    seatings = [start]
    for k in range(len(groups)):
        if start[k] is None:
            seatings = with_one_more(hall, groups, seatings, k, some)
    return seatings


def first_of_all(hall, groups, fast=None):
    seatings = seatings_from(hall, groups, small_start(hall, groups, fast), False)
    return seatings[0] if len(seatings) > 0 else None
