"""The refusals: one class for each, all under HouseError."""


class HouseError(ValueError):
    pass


class NoBook(HouseError):
    pass


class NoText(HouseError):
    pass


class NoName(HouseError):
    pass


class NoHeap(HouseError):
    pass


class NoRow(HouseError):
    pass


class NoMoment(HouseError):
    pass


class NoDeed(HouseError):
    pass


class TooLate(HouseError):
    pass


class TooMuch(HouseError):
    pass
