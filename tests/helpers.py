"""What several test files need: houses and days in great number, and answers found without the program."""

import copy
import itertools
import unittest

from furlough.errors import Away, LeaveError, NoAsk, NoDay, NoHand, Short, Twice
from furlough.seasons import Season

SIXTY = 10 ** 60 - 1
FORTY = 10 ** 40 - 1
LAST_DAY = 1000000

# Hands for two posts; hand 3 can stand nowhere.
FIVE_HANDS = [[0], [0, 1], [1], [], [0, 1]]


def subsets(things):
    for size in range(len(things) + 1):
        for some in itertools.combinations(things, size):
            yield list(some)


def rows_of(things):
    """Every row of some of these, none twice, in every order."""
    for size in range(len(things) + 1):
        for row in itertools.permutations(things, size):
            yield list(row)


def small_houses(most_posts, most_hands):
    for posts in range(most_posts + 1):
        rows = list(subsets(range(posts)))
        for hands in range(1, most_hands + 1):
            for able in itertools.product(rows, repeat=hands):
                yield posts, [list(row) for row in able]


def small_days(most_posts, most_hands):
    for posts, able in small_houses(most_posts, most_hands):
        for there in subsets(range(len(able))):
            for asks in rows_of(there):
                yield posts, able, there, asks


def chance_house(chance, posts, hands, odds):
    able = [[post for post in range(posts) if chance.random() < odds] for hand in range(hands)]
    some = [hand for hand in range(hands) if chance.random() < 0.8]
    return able, some


def chance_days(chance, count, most_posts, most_spare):
    """Days of which many have some asks granted and some not."""
    for turn in range(count):
        posts = chance.randrange(1, most_posts + 1)
        hands = posts + chance.randrange(1, most_spare + 1)
        able, some = chance_house(chance, posts, hands, chance.choice([0.3, 0.45, 0.6]))
        there = some if turn % 4 == 0 else list(range(hands))
        asks = [hand for hand in there if chance.random() < 0.8]
        chance.shuffle(asks)
        yield posts, able, there, asks


def less(hands, some):
    return [hand for hand in hands if hand not in some]


def able_by_hand(able, hands, some):
    return [hand for hand in hands if set(able[hand]) & set(some)]


def lack_by_hand(able, hands, some):
    return len(some) - len(able_by_hand(able, hands, some))


def least_sets_with_greatest_lack(posts, able, hands):
    """The greatest lack, and all sets of posts that have it, those with the fewest posts first."""
    lacks = [(lack_by_hand(able, hands, some), some) for some in subsets(range(posts))]
    greatest = max(lack for lack, some in lacks)
    return greatest, [some for lack, some in lacks if lack == greatest]


def man_by_hand(posts, able, hands):
    """Whether these hands man all posts: post by post, all sets of hands that can stand at those so far."""
    standing = {frozenset()}
    for post in range(posts):
        fit = [hand for hand in hands if post in able[hand]]
        standing = {some | {hand} for some in standing for hand in fit if hand not in some}
    return bool(standing)


def grant_by_hand(posts, able, there, asks):
    gone = []
    for hand in asks:
        if man_by_hand(posts, able, less(there, gone + [hand])):
            gone = gone + [hand]
    return gone


def paper_by_hand(posts, able, there, asks, hand):
    gone = grant_by_hand(posts, able, there, asks)
    if hand in gone:
        return None
    here = less(there, [other for other in asks[:asks.index(hand)] if other in gone])
    lacking = least_sets_with_greatest_lack(posts, able, less(here, [hand]))[1][0]
    return lacking, able_by_hand(able, here, lacking)


class SeasonWalk:
    """A season walked through by hand: every answer is found anew from what was told so far."""

    def __init__(self, posts, able):
        self.posts = posts
        self.able = copy.deepcopy(able)
        self.asking = set()
        self.gone_off = set()
        self.days = []
        self.found = {}

    def tell(self, deed, *handed):
        """What a season tells, or its refusal, raised."""
        hand = None if deed in ("asks_of", "close", "next_day", "granted") else handed[0]
        day = handed[-1] if deed in ("ask", "withdraw", "off", "back", "asks_of") else None
        for refusal, holds in self.refusals(deed, hand, day):
            if holds():
                raise refusal(deed)
        return getattr(self, "tell_" + deed)(*handed)

    def refusals(self, deed, hand, day):
        """Point 16 and 18, row by row: which refusal, and whether it holds."""
        mark = (hand, day)
        return [
            (NoHand, lambda: hand is not None and hand not in range(len(self.able))),
            (NoDay, lambda: day is not None and day not in range(len(self.days), LAST_DAY + 1)),
            (NoDay, lambda: deed in ("ill", "why") and not self.days),
            (Twice, lambda: deed == "ask" and mark in self.asking or deed == "off" and mark in self.gone_off),
            (NoAsk, lambda: deed == "withdraw" and mark not in self.asking),
            (NoAsk, lambda: deed == "why" and hand not in self.last()[1]),
            (Away, lambda: deed == "ask" and mark in self.gone_off or deed == "back" and mark not in self.gone_off),
            (Away, lambda: deed == "ill" and hand not in self.last()[0]),
            (Short, lambda: deed == "close" and not man_by_hand(self.posts, self.able, self.next_there())),
            (Short, lambda: deed == "ill" and not man_by_hand(self.posts, self.able, less(self.last()[0], [hand]))),
        ]

    def next_there(self):
        return [hand for hand in range(len(self.able)) if (hand, len(self.days)) not in self.gone_off]

    def as_it_stands(self, day):
        there, asks, ill = self.days[day]
        return less(there, ill), less(asks, ill)

    def last(self):
        return self.as_it_stands(len(self.days) - 1)

    def granted_on(self, day):
        key = (day, len(self.days[day][2]))
        if key not in self.found:
            self.found[key] = grant_by_hand(self.posts, self.able, *self.as_it_stands(day))
        return list(self.found[key])

    def granted_last(self):
        return self.granted_on(len(self.days) - 1)

    def tell_ask(self, hand, day):
        self.asking.add((hand, day))

    def tell_withdraw(self, hand, day):
        self.asking.remove((hand, day))

    def tell_off(self, hand, day):
        self.gone_off.add((hand, day))
        self.asking.discard((hand, day))

    def tell_back(self, hand, day):
        self.gone_off.remove((hand, day))

    def tell_close(self):
        ranks = sorted((self.tell_had(hand), hand) for hand in self.tell_asks_of(len(self.days)))
        self.days.append((self.next_there(), [hand for had, hand in ranks], []))
        return self.granted_last()

    def tell_ill(self, hand):
        before = self.granted_last()
        self.days[-1][2].append(hand)
        granted = self.granted_last()
        called = less(before, granted + [hand])
        return granted, called[0] if called else None

    def tell_next_day(self):
        return len(self.days)

    def tell_had(self, hand):
        return sum(hand in granted for granted in self.tell_granted())

    def tell_asks_of(self, day):
        return [hand for hand in range(len(self.able)) if (hand, day) in self.asking]

    def tell_granted(self):
        return [self.granted_on(day) for day in range(len(self.days))]

    def tell_why(self, hand):
        return paper_by_hand(self.posts, self.able, *self.last(), hand)


def chance_deed(chance, hands, next_day):
    """A deed, or something asked, and what is handed with it; now and then of no hand or no day."""
    deed = chance.choice(["ask"] * 10 + ["withdraw", "off", "back"] * 2 + ["close"] * 3 + ["ill"] * 3 + ["why", "had"])
    hand = chance.randrange(hands)
    day = next_day + chance.choice([0, 0, 0, 1, 2])
    if chance.random() < 0.05:
        hand = chance.choice([-1, -hands, hands, FORTY, -FORTY])
    if chance.random() < 0.05:
        day = chance.choice([next_day - 1, -1, LAST_DAY, LAST_DAY + 1, FORTY, -FORTY])
    if deed == "close":
        return (deed,)
    return (deed, hand) if deed in ("ill", "why", "had") else (deed, hand, day)


def outcome(asked, *handed):
    """What is told, or the class of the refusal, with the kinds of all values."""
    try:
        return repr(asked(*handed))
    except LeaveError as refusal:
        return type(refusal).__name__


def season_told(tell, hands):
    """All that a season tells, tell being asked by words."""
    first = tell("next_day")
    days = [first, first + 1, first + 2, LAST_DAY]
    return (
        first,
        outcome(tell, "granted"),
        [outcome(tell, "asks_of", day) for day in days],
        [outcome(tell, "had", hand) for hand in range(hands)],
        [outcome(tell, "why", hand) for hand in range(hands)],
    )


def teller(season):
    """A season asked by words, like a SeasonWalk."""
    return lambda deed, *handed: getattr(season, deed)(*handed)


def lists_in(value):
    if not isinstance(value, (list, tuple)):
        return []
    found = [value] if isinstance(value, list) else []
    for member in value:
        found = found + lists_in(member)
    return found


def spoil(value):
    for some in lists_in(value):
        some.append(99)
        some.reverse()


class LeaveCase(unittest.TestCase):
    def told(self, asked, *handed):
        """What is told, having looked that nothing handed in was changed."""
        kept = copy.deepcopy(handed)
        told = asked(*handed)
        self.assertEqual(handed, kept)
        return told

    def assert_refused(self, refusal, asked, *handed):
        kept = copy.deepcopy(handed)
        with self.assertRaises(ValueError, msg=handed) as caught:
            asked(*handed)
        self.assertIs(type(caught.exception), refusal, handed)
        self.assertIsInstance(caught.exception, LeaveError)
        self.assertEqual(handed, kept)

    def assert_own(self, asked, *handed):
        """What is told is the asker's own, and hangs on nothing handed in."""
        kept = copy.deepcopy(handed)
        first = asked(*handed)
        answer = copy.deepcopy(first)
        self.assertEqual(len({id(some) for some in lists_in(first)}), len(lists_in(first)))
        spoil(first)
        self.assertEqual(handed, kept)
        second = asked(*handed)
        self.assertEqual(second, answer)
        spoil(handed)
        self.assertEqual(second, answer)
        self.assertEqual(asked(*kept), answer)

    def assert_whole_numbers(self, some):
        self.assertIs(type(some), list)
        self.assertEqual([type(number) for number in some], [int] * len(some))


def season_of(posts=2, able=FIVE_HANDS, asks=()):
    season = Season(posts, copy.deepcopy(able))
    for hand, day in asks:
        season.ask(hand, day)
    return season


class SeasonCase(LeaveCase):
    def assert_refused_and_kept(self, refusal, season, deed, *handed):
        """Refused, and all that is told is as it was; what the season keeps too, as later answers hang on it."""
        before = season_told(teller(season), 5)
        kept = copy.deepcopy(vars(season))
        self.assert_refused(refusal, getattr(season, deed), *handed)
        self.assertEqual(season_told(teller(season), 5), before)
        self.assertEqual(vars(season), kept)

    def assert_done(self, season, deed, *handed):
        self.assertIsNone(getattr(season, deed)(*handed), (deed, handed))
