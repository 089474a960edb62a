"""The refusals: one base, and all others straight under it."""


class HandError(ValueError):
    pass


class NoHouse(HandError):
    pass


class NoRow(HandError):
    pass


class NoMachine(HandError):
    pass


class NoRoom(HandError):
    pass


class NoHand(HandError):
    pass


class Unlike(HandError):
    pass


class NoPast(HandError):
    pass


class TooMany(HandError):
    pass


class Torn(HandError):
    def __init__(self, row, place):
        self.row = row
        self.place = place


class NoTable(HandError):
    pass


class NoSet(HandError):
    pass


class Falls(HandError):
    def __init__(self, row):
        self.row = row


class Whole(HandError):
    pass


class NoText(HandError):
    pass


class NoWord(HandError):
    pass
