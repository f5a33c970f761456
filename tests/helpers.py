"""What several test files need: houses and days in great number, and answers found without the program."""

import copy
import itertools
import unittest

from furlough.errors import LeaveError

SIXTY = 10 ** 60 - 1


def subsets(things):
    for size in range(len(things) + 1):
        for some in itertools.combinations(things, size):
            yield list(some)


def rows_of(things):
    """Every row of some of these, none twice, in every order."""
    for size in range(len(things) + 1):
        for row in itertools.permutations(things, size):
            yield list(row)


def small_houses(most_posts, most_hands):
    for posts in range(most_posts + 1):
        rows = list(subsets(range(posts)))
        for hands in range(1, most_hands + 1):
            for able in itertools.product(rows, repeat=hands):
                yield posts, [list(row) for row in able]


def small_days(most_posts, most_hands):
    for posts, able in small_houses(most_posts, most_hands):
        for there in subsets(range(len(able))):
            for asks in rows_of(there):
                yield posts, able, there, asks


def chance_house(chance, posts, hands, odds):
    able = [[post for post in range(posts) if chance.random() < odds] for hand in range(hands)]
    some = [hand for hand in range(hands) if chance.random() < 0.8]
    return able, some


def chance_days(chance, count, most_posts, most_spare):
    """Days of which many have some asks granted and some not."""
    for turn in range(count):
        posts = chance.randrange(1, most_posts + 1)
        hands = posts + chance.randrange(1, most_spare + 1)
        able, some = chance_house(chance, posts, hands, chance.choice([0.3, 0.45, 0.6]))
        there = some if turn % 4 == 0 else list(range(hands))
        asks = [hand for hand in there if chance.random() < 0.8]
        chance.shuffle(asks)
        yield posts, able, there, asks


def less(hands, some):
    return [hand for hand in hands if hand not in some]


def able_by_hand(able, hands, some):
    return [hand for hand in hands if set(able[hand]) & set(some)]


def lack_by_hand(able, hands, some):
    return len(some) - len(able_by_hand(able, hands, some))


def least_sets_with_greatest_lack(posts, able, hands):
    """The greatest lack, and all sets of posts that have it, those with the fewest posts first."""
    lacks = [(lack_by_hand(able, hands, some), some) for some in subsets(range(posts))]
    greatest = max(lack for lack, some in lacks)
    return greatest, [some for lack, some in lacks if lack == greatest]


def man_by_hand(posts, able, hands):
    """Whether these hands man all posts: post by post, all sets of hands that can stand at those so far."""
    standing = {frozenset()}
    for post in range(posts):
        fit = [hand for hand in hands if post in able[hand]]
        standing = {some | {hand} for some in standing for hand in fit if hand not in some}
    return bool(standing)


def grant_by_hand(posts, able, there, asks):
    gone = []
    for hand in asks:
        if man_by_hand(posts, able, less(there, gone + [hand])):
            gone = gone + [hand]
    return gone


def paper_by_hand(posts, able, there, asks, hand):
    gone = grant_by_hand(posts, able, there, asks)
    if hand in gone:
        return None
    here = less(there, [other for other in asks[:asks.index(hand)] if other in gone])
    lacking = least_sets_with_greatest_lack(posts, able, less(here, [hand]))[1][0]
    return lacking, able_by_hand(able, here, lacking)


def lists_in(value):
    if not isinstance(value, (list, tuple)):
        return []
    found = [value] if isinstance(value, list) else []
    for member in value:
        found = found + lists_in(member)
    return found


def spoil(value):
    for some in lists_in(value):
        some.append(99)
        some.reverse()


class LeaveCase(unittest.TestCase):
    def told(self, asked, *handed):
        """What is told, having looked that nothing handed in was changed."""
        kept = copy.deepcopy(handed)
        told = asked(*handed)
        self.assertEqual(handed, kept)
        return told

    def assert_refused(self, refusal, asked, *handed):
        kept = copy.deepcopy(handed)
        with self.assertRaises(ValueError, msg=handed) as caught:
            asked(*handed)
        self.assertIs(type(caught.exception), refusal, handed)
        self.assertIsInstance(caught.exception, LeaveError)
        self.assertEqual(handed, kept)

    def assert_own(self, asked, *handed):
        """What is told is the asker's own, and hangs on nothing handed in."""
        kept = copy.deepcopy(handed)
        first = asked(*handed)
        answer = copy.deepcopy(first)
        self.assertEqual(len({id(some) for some in lists_in(first)}), len(lists_in(first)))
        spoil(first)
        self.assertEqual(handed, kept)
        second = asked(*handed)
        self.assertEqual(second, answer)
        spoil(handed)
        self.assertEqual(second, answer)
        self.assertEqual(asked(*kept), answer)

    def assert_whole_numbers(self, some):
        self.assertIs(type(some), list)
        self.assertEqual([type(number) for number in some], [int] * len(some))
