"""Leaves: who may go, and the granting of a day's asks by rank."""

from furlough.errors import Short
from furlough.mannings import manning_of


def without(hands, some):
    return [hand for hand in hands if hand not in some]


def may_go(posts, able, there, away):
    return manning_of(posts, able, without(there, away))[0] == "manned"


def refuse_short(posts, able, there):
    if not may_go(posts, able, there, []):
        raise Short("those there don't man all posts")


def grant(posts, able, there, asks):
    # Without asks nothing else would tell that the posts can't be manned.
    refuse_short(posts, able, there)
    granted = []
    for hand in asks:
        if may_go(posts, able, there, sorted(granted + [hand])):
            granted.append(hand)
    return granted
