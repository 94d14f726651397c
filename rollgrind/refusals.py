"""The refusals of a call, one error class for each."""


class NoMill(Exception):
    pass


class NoRoll(Exception):
    pass


class OutsideLimits(Exception):
    pass


class TooManyRolls(Exception):
    pass


class NotWritten(Exception):
    # Not a refusal of the document: a call that the program does not answer yet.
    pass
