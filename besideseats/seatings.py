"""Seatings: groups at their places, apart from one another."""

from besideseats.groups import DEPTH, GAP, WIDTH, worth_in
from besideseats.places import fits, seats_of


def apart(one, here, other, there):
    if here[0] + one[DEPTH] <= there[0] or there[0] + other[DEPTH] <= here[0]:
        return True
    gap = max(one[GAP], other[GAP])
    return here[1] + one[WIDTH] + gap <= there[1] or there[1] + other[WIDTH] + gap <= here[1]


def those_that_sit(groups, seating):
    return [(group, place) for group, place in zip(groups, seating) if place is not None]


def apart_from_all(group, place, seated):
    return all([apart(group, place, other, there) for other, there in seated])


def keeps(hall, groups, seating):
    seated = those_that_sit(groups, seating)
    if not all([fits(hall, group, place) for group, place in seated]):
        return False
    # Apart goes both ways, so each is held against those ahead of it alone.
    return all([apart_from_all(seated[k][0], seated[k][1], seated[:k]) for k in range(len(seated))])


def worth_of(groups, seating):
    return sum([worth_in(group, place[0]) for group, place in those_that_sit(groups, seating)])


def free_seats(hall, groups, seating):
    taken = {}
    for group, place in those_that_sit(groups, seating):
        for seat in seats_of(group, place):
            taken[seat] = True
    free = []
    for row, signs in enumerate(hall):
        seats = [(row, column) for column, sign in enumerate(signs) if sign != "#"]
        free.extend([seat for seat in seats if seat not in taken])
    return tuple(free)
