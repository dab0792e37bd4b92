"""The refusals, one class for each, all straight under SlipError."""


class SlipError(ValueError):
    pass


class NoText(SlipError):
    pass


class NoHouse(SlipError):
    def __init__(self, fault):
        self.fault = fault


class NoMeet(SlipError):
    pass


class TooFar(SlipError):
    def __init__(self, many):
        self.many = many


class NoRow(SlipError):
    pass


class NoStand(SlipError):
    pass


class NoRoom(SlipError):
    pass
