"""The refusals, each a class of its own under SeatError."""


class SeatError(ValueError):
    pass


class NoHall(SeatError):
    pass


class NoGroup(SeatError):
    pass


class NoText(SeatError):
    pass


class NoSeating(SeatError):
    pass


class NoRow(SeatError):
    pass


class NoName(SeatError):
    pass


class Twice(SeatError):
    pass


class Full(SeatError):
    def __init__(self, paper):
        self.paper = paper


class TooGreat(SeatError):
    def __init__(self, many, most):
        self.many = many
        self.most = most
