"""The desk: groups ask one by one, and all at hand sit as is best."""

from besideseats.best import best_of_all
from besideseats.errors import Full, NoGroup, NoHall, NoName, NoRow, TooGreat, Twice
from besideseats.groups import NAME, is_group, is_name
from besideseats.halls import is_hall
from besideseats.papers import paper_of
from besideseats.rooms import with_place
from besideseats.seatings import worth_of
from besideseats.texts import read_group

MOST_GUESTS = 6
WORDS = ("ask", "fast", "away", "where")


def without(things, k):
    return things[:k] + things[k + 1:]


def show_place(place):
    return str(place[0]) + " " + str(place[1])


class Desk:
    def __init__(self, hall):
        if not is_hall(hall):
            raise NoHall("a desk is made for a hall alone")
        self.hall = hall
        self.guests = ()
        self.held = ()
        self.places = ()

    def number_of(self, name):
        if is_name(name):
            for k, guest in enumerate(self.guests):
                if guest[NAME] == name:
                    return k
        raise NoName("nobody of this name is at hand")

    def ask(self, group):
        if not is_group(group):
            raise NoGroup("groups alone may ask")
        if group[NAME] in [guest[NAME] for guest in self.guests]:
            raise Twice("one of this name is at hand")
        guests = self.guests + (group,)
        if len(guests) > MOST_GUESTS:
            raise TooGreat(len(guests), MOST_GUESTS)
        held = self.held + (None,)
        places = best_of_all(self.hall, guests, held)
        if places is None:
            raise Full(paper_of(self.hall, guests, held))
        # Kept from here on alone, as what is refused changes nothing.
        self.guests = guests
        self.held = held
        self.places = places
        return places[-1]

    def fast(self, name):
        # Nobody moves by that: the best seating of all has it at this place.
        k = self.number_of(name)
        self.held = with_place(self.held, k, self.places[k])

    def away(self, name):
        # The others had room beside it, and their ways are no more: nothing is refused.
        k = self.number_of(name)
        self.guests = without(self.guests, k)
        self.held = without(self.held, k)
        self.places = best_of_all(self.hall, self.guests, self.held)

    def where(self, name):
        return self.places[self.number_of(name)]

    def at_hand(self):
        return self.guests

    def seating(self):
        return self.places

    def worth(self):
        return worth_of(self.guests, self.places)

    def show_all(self):
        if self.guests == ():
            return "nobody"
        return "; ".join([guest[NAME] + " " + show_place(place) for guest, place in zip(self.guests, self.places)])

    def say(self, row):
        if not isinstance(row, str):
            raise NoRow("a row is a text")
        if row == "all":
            return self.show_all()
        if row == "worth":
            return str(self.worth())
        parts = row.partition(" ")
        if parts[0] not in WORDS or parts[1] == "":
            raise NoRow("no such row is known here")
        return self.do(parts[0], parts[2])

    def do(self, word, rest):
        if word == "ask":
            return show_place(self.ask(read_group(rest)))
        if word == "where":
            return show_place(self.where(rest))
        if word == "fast":
            self.fast(rest)
        else:
            self.away(rest)
        return "ok"
