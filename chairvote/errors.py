"""The refusals of the program, one class for each."""


class HallError(ValueError):
    def __init__(self, at):
        self.at = at


class NoPlace(HallError):
    pass


class Torn(HallError):
    pass


class NotMine(HallError):
    pass


class NoChair(HallError):
    pass


class NoRoll(HallError):
    pass


class Busy(HallError):
    pass


class NoHand(HallError):
    pass


class Away(HallError):
    pass


class Standing(HallError):
    pass


class NoLetter(HallError):
    pass


class BadPaper(HallError):
    pass


class NoRules(HallError):
    pass
