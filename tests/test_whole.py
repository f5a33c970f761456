"""What holds over granting, papers, bounds and changes together, and over seasons and desks."""

import random
import unittest

from furlough.changes import fallen_ill
from furlough.desk import Desk
from furlough.errors import LeaveError, Short
from furlough.leaves import grant, may_go
from furlough.papers import bound_of, is_granting, paper_of
from furlough.seasons import Season
from helpers import chance_days, chance_deed, chance_house, less, man_by_hand, small_days, subsets

ALL_DAYS = list(small_days(2, 3)) + list(chance_days(random.Random(33), 300, 4, 4))
DAYS = [day for day in ALL_DAYS if man_by_hand(*day[:3])]


def without_post(able, gone):
    """Able once a post is no more, and those behind it are numbered anew."""
    return [[post - (post > gone) for post in row if post != gone] for row in able]


class WholeTest(unittest.TestCase):
    def assert_kept(self, granted, later, day):
        self.assertEqual(less(granted, later), [], day)

    def test_just_one_row_is_right_and_it_is_granted(self):
        for day in DAYS:
            right = [row for row in subsets(day[3]) if is_granting(*day, row)]
            self.assertEqual(right, [grant(*day)], day)

    def test_those_who_stay_man_and_each_other_ask_has_a_paper(self):
        for day in DAYS:
            posts, able, there, asks = day
            granted = grant(*day)
            self.assertIs(may_go(posts, able, there, sorted(granted)), True, day)
            self.assertEqual([hand for hand in asks if paper_of(*day, hand) is None], granted, day)

    def test_no_greater_number_could_be_granted(self):
        for day in DAYS:
            posts, able, there, asks = day
            granted = grant(*day)
            for some in subsets(asks):
                if len(some) > len(granted):
                    self.assertIs(may_go(posts, able, there, sorted(some)), False, day)
            self.assertEqual(bound_of(*day)[0], len(granted), day)

    def test_whoever_withdraws_takes_nobody_elses_leave(self):
        new = 0
        for day in DAYS:
            posts, able, there, asks = day
            granted = grant(*day)
            for hand in asks:
                later = grant(posts, able, there, less(asks, [hand]))
                self.assert_kept(less(granted, [hand]), later, day)
                new += len(less(later, granted))
        self.assertGreater(new, 100)

    def test_a_hand_more_takes_nobodys_leave(self):
        new = 0
        for day in DAYS:
            posts, able, there, asks = day
            granted = grant(*day)
            for hand in less(range(len(able)), there):
                later = grant(posts, able, sorted(there + [hand]), asks)
                self.assert_kept(granted, later, day)
                new += len(less(later, granted))
        self.assertGreater(new, 100)

    def test_a_post_less_takes_nobodys_leave(self):
        new = 0
        for day in DAYS:
            posts, able, there, asks = day
            granted = grant(*day)
            for post in range(posts):
                later = grant(posts - 1, without_post(able, post), there, asks)
                self.assert_kept(granted, later, day)
                new += len(less(later, granted))
        self.assertGreater(new, 100)

    def test_when_a_hand_falls_ill_one_leave_at_most_is_called_back_and_none_is_new(self):
        called_back = 0
        for day in DAYS:
            granted = grant(*day)
            for hand in day[2]:
                try:
                    later, called = fallen_ill(*day, hand)
                except Short:
                    continue
                gone = less(granted, later + [hand])
                self.assertEqual(gone, [] if called is None else [called], day)
                self.assert_kept(later, granted, day)
                called_back += len(gone)
        self.assertGreater(called_back, 100)


class SpokenSeason:
    """A desk in the place of a season: told by rows, and its answers read back into numbers."""

    def __init__(self, posts, able):
        self.names = ["abcdefghijkl"[hand] * 2 for hand in range(len(able))]
        self.posts = ["abcdefghijkl"[post] for post in range(posts)]
        self.desk = Desk()
        for name in self.posts:
            self.desk.say("post " + name)
        for name, row in zip(self.names, able):
            self.desk.say(" ".join(["hand", name] + [self.posts[post] for post in reversed(row)]))
        self.desk.say("open")

    def say(self, *words):
        return self.desk.say(" ".join(str(word) for word in words))

    def numbers(self, text):
        return [] if text == "none" else [self.names.index(name) for name in text.split(" ")]

    def ask(self, hand, day):
        self.say("ask", self.names[hand], day)

    def withdraw(self, hand, day):
        self.say("withdraw", self.names[hand], day)

    def off(self, hand, day):
        self.say("off", self.names[hand], day)

    def back(self, hand, day):
        self.say("back", self.names[hand], day)

    def close(self):
        return self.numbers(self.say("close"))

    def ill(self, hand):
        granted, called = self.say("ill", self.names[hand]).split(" / ")
        return self.numbers(granted), None if called == "none" else self.names.index(called)

    def next_day(self):
        return int(self.say("day"))

    def had(self, hand):
        return int(self.say("had", self.names[hand]))

    def asks_of(self, day):
        return self.numbers(self.say("asks", day))

    def why(self, hand):
        told = self.say("why", self.names[hand])
        if told == "granted":
            return None
        lacking, left = told.split(" : ")
        return [self.posts.index(name) for name in lacking.split(" ")], self.numbers(left)


class SeasonsTest(unittest.TestCase):
    def follow(self, sort, seed, met):
        chance = random.Random(seed)
        posts = chance.randrange(0, 4)
        able, some = chance_house(chance, posts, posts + chance.randrange(1, 4), chance.choice([0.5, 0.7, 0.9]))
        hands = range(len(able))
        season = sort(posts, able)
        absent = set()
        there, asks, granted = [], [], []
        for turn in range(80):
            day = season.next_day()
            had = [season.had(hand) for hand in hands]
            asking = season.asks_of(day)
            deed, *handed = chance_deed(chance, len(able), day)
            # What can't be spoken at a desk is left out.
            if handed and (handed[0] not in hands or handed[-1] not in range(10 ** 7)):
                continue
            try:
                told = getattr(season, deed)(*handed)
            except LeaveError:
                continue
            if deed in ("off", "back"):
                absent ^= {tuple(handed)}
            if deed == "close":
                there = [hand for hand in hands if (hand, day) not in absent]
                asks = sorted(asking, key=lambda hand: (had[hand], hand))
                self.look_at_had(season, had, [], told)
                granted = told
                met["closed"] += 1
                met["told no"] += len(less(asks, granted))
            if deed == "ill":
                there, asks = less(there, handed), less(asks, handed)
                self.look_at_had(season, had, granted, told[0])
                self.look_at_ill(granted, told, handed[0])
                granted = told[0]
                met["called back"] += told[1] is not None
            if deed in ("close", "ill"):
                self.look_at_day(season, posts, able, there, asks, granted)

    def look_at_day(self, season, posts, able, there, asks, granted):
        self.assertEqual(granted, [hand for hand in asks if hand in granted])
        self.assertTrue(man_by_hand(posts, able, less(there, granted)))
        for hand in asks:
            paper = season.why(hand)
            self.assertEqual(paper is None, hand in granted)
            if paper is not None:
                ahead = [other for other in asks[:asks.index(hand)] if other in granted]
                lacking, left = paper
                self.assertEqual(left, [one for one in less(there, ahead) if set(able[one]) & set(lacking)])
                self.assertEqual(len(lacking), len(left))
                self.assertIn(hand, left)
        for some in subsets(asks):
            if len(some) > len(granted):
                self.assertFalse(man_by_hand(posts, able, less(there, some)))

    def look_at_ill(self, before, told, ill):
        granted, called = told
        self.assertEqual(less(before, granted + [ill]), [] if called is None else [called])
        self.assertEqual(less(granted, before), [])

    def look_at_had(self, season, had, before, granted):
        for hand, number in enumerate(had):
            self.assertEqual(season.had(hand), number - (hand in before) + (hand in granted))

    def test_seasons(self):
        met = {"closed": 0, "told no": 0, "called back": 0}
        for seed in range(100):
            self.follow(Season, seed, met)
        self.assertGreater(min(met.values()), 50)

    def test_desks(self):
        met = {"closed": 0, "told no": 0, "called back": 0}
        for seed in range(100, 200):
            self.follow(SpokenSeason, seed, met)
        self.assertGreater(min(met.values()), 50)


if __name__ == "__main__":
    unittest.main()
