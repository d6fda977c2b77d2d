"""The refusals of the program."""


class BesideError(ValueError):
    pass


class NoQuestion(BesideError):
    def __init__(self, at):
        self.at = at


class NoWay(BesideError):
    pass


class Twice(BesideError):
    pass


class NoText(BesideError):
    pass


class NoDeed(BesideError):
    pass
