"""What the program refuses: one class for each refusal, all of them under OrderError."""


class OrderError(ValueError):
    pass


class BadThings(OrderError):
    pass


class BadPair(OrderError):
    pass


class Ring(OrderError):
    pass


class NoThing(OrderError):
    pass


class NotNet(OrderError):
    pass


class NotSpread(OrderError):
    pass


class TooMany(OrderError):
    pass


class NoText(OrderError):
    pass
