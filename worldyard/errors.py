"""The refusals of the program."""


class YardError(ValueError):
    pass


class NoSaying(YardError):
    pass


class NoText(YardError):
    pass


class NoWorld(YardError):
    pass
