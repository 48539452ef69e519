"""The refusals of the program: all of them stand straight under CordError."""


class CordError(ValueError):
    pass


class NoFraction(CordError):
    pass


class NoCord(CordError):
    # None where no place of a ladder is at fault.
    def __init__(self, place):
        self.place = place


class NoWorth(CordError):
    pass


class NoBead(CordError):
    pass


class NoText(CordError):
    pass


class NoName(CordError):
    pass
