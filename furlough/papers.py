"""Papers: what is shown to those who are told no, and to those who doubt a granting."""

from furlough.errors import NoAsk
from furlough.houses import able_for
from furlough.leaves import grant, without
from furlough.mannings import manning_of


def paper_of(posts, able, there, asks, hand):
    if hand not in asks:
        raise NoAsk("this hand does not ask")
    granted = grant(posts, able, there, asks)
    if hand in granted:
        return None
    still = there_at_turn(there, asks, granted, hand)
    return refusal_paper(posts, able, still, hand)


def there_at_turn(there, asks, granted, hand):
    ahead = asks[:asks.index(hand)]
    return without(there, [other for other in ahead if other in granted])


def refusal_paper(posts, able, there, hand):
    lacking = manning_of(posts, able, without(there, [hand]))[1]
    return (lacking, able_for(able, there, lacking))


def is_granting(posts, able, there, asks, granted):
    # Ask by ask a right list can but go on as the granting does: whoever is in it may go with
    # those of it ahead, and whoever is not may not. So it is the granting itself or not right.
    return granted == grant(posts, able, there, asks)


def bound_of(posts, able, there, asks):
    shown = posts_shown(posts, able, there, asks)
    spare = len(able_for(able, there, shown)) - len(shown)
    others = without(asks, able_for(able, asks, shown))
    return (spare + len(others), shown, spare, others)


def posts_shown(posts, able, there, asks):
    granted = grant(posts, able, there, asks)
    shown = []
    for hand in without(asks, granted):
        still = there_at_turn(there, asks, granted, hand)
        shown.extend(refusal_paper(posts, able, still, hand)[0])
    return sorted(set(shown))
