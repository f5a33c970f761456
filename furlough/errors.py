"""The refusals of the program, one class each."""


class LeaveError(ValueError):
    pass


class NoHouse(LeaveError):
    pass


class Short(LeaveError):
    pass


class NoAsk(LeaveError):
    pass


class NoHand(LeaveError):
    pass


class NoDay(LeaveError):
    pass


class Twice(LeaveError):
    pass


class Away(LeaveError):
    pass


class NoPost(LeaveError):
    pass


class Full(LeaveError):
    pass


class NoRow(LeaveError):
    pass
