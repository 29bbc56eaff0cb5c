"""The refusals: an error class for each, with the number that it answers."""


class Refusal(Exception):
    def __init__(self, answer):
        self.answer = answer


class OutOfRange(Refusal):
    def __init__(self):
        Refusal.__init__(self, -1)


class NoSuchBook(Refusal):
    def __init__(self):
        Refusal.__init__(self, -2)


class ThereAlready(Refusal):
    def __init__(self):
        Refusal.__init__(self, -3)


class NoSuchGroup(Refusal):
    def __init__(self):
        Refusal.__init__(self, -4)


class NoSuchSender(Refusal):
    def __init__(self):
        Refusal.__init__(self, -5)


class NumberTooFar(Refusal):
    def __init__(self):
        Refusal.__init__(self, -6)


class NotTight(Refusal):
    def __init__(self):
        Refusal.__init__(self, -6)


class NoneFound(Refusal):
    def __init__(self):
        Refusal.__init__(self, -6)


class TransactionOpen(Refusal):
    def __init__(self):
        Refusal.__init__(self, -7)


class NoTransaction(Refusal):
    def __init__(self):
        Refusal.__init__(self, -7)


class Outdated(Refusal):
    def __init__(self):
        Refusal.__init__(self, -8)


class NotTheOwner(Refusal):
    def __init__(self):
        Refusal.__init__(self, -9)


class NotAMember(Refusal):
    def __init__(self):
        Refusal.__init__(self, -9)
