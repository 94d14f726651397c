"""The refusals of a call, one error class for each."""


class NoMill(Exception):
    pass


class NoRoll(Exception):
    pass


class OutsideLimits(Exception):
    pass


class TooManyRolls(Exception):
    pass


class NeverReground(Exception):
    pass
