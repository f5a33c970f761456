"""Changes: what becomes of a day's leaves when a hand falls ill."""

from furlough.errors import NoHand
from furlough.leaves import grant, without


def fallen_ill(posts, able, there, asks, hand):
    if hand not in there:
        raise NoHand("this hand is not there")
    before = grant(posts, able, there, asks)
    granted = grant(posts, able, without(there, [hand]), without(asks, [hand]))
    return (granted, called_back(before, granted, hand))


def called_back(before, granted, ill):
    called = without(before, granted + [ill])
    # No set of posts loses more than the one ill hand, so one leave called back makes up for
    # it: there is never a second one to tell.
    return called[0] if called else None
