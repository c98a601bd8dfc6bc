"""Holes: which seats no group that comes can use."""

from besideseats.places import places_of, seats_of
from besideseats.rooms import open_among
from besideseats.seatings import free_seats, those_that_sit


def all_users(hall, groups, seating, coming):
    seated = those_that_sit(groups, seating)
    found = []
    for k, group in enumerate(coming):
        found.extend([(k, place) for place in open_among(places_of(hall, group), group, seated)])
    return found


def users(hall, groups, seating, coming, seat):
    found = all_users(hall, groups, seating, coming)
    return tuple([(k, place) for k, place in found if seat in seats_of(coming[k], place)])


def holes(hall, groups, seating, coming):
    used = {}
    for k, place in all_users(hall, groups, seating, coming):
        for seat in seats_of(coming[k], place):
            used[seat] = True
    return tuple([seat for seat in free_seats(hall, groups, seating) if seat not in used])
