"""The refusals of the program."""


class MobileError(ValueError):
    pass


class NoNumber(MobileError):
    pass


class NoPlace(MobileError):
    pass


class NoText(MobileError):
    pass
