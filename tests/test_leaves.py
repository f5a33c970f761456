import random
import unittest

from furlough.errors import Short
from furlough.leaves import grant, may_go
from helpers import LeaveCase, chance_days, grant_by_hand, less, man_by_hand, small_days, small_houses, subsets

# Two posts, five hands; hand 3 can stand nowhere.
ABLE = [[0], [0, 1], [1], [], [0, 1]]
ALL = [0, 1, 2, 3, 4]


class MayGoTest(LeaveCase):
    def assert_may_go(self, posts, able, there, away, told):
        self.assertIs(self.told(may_go, posts, able, there, away), told, (posts, able, there, away))

    def test_nobody_away(self):
        self.assert_may_go(2, ABLE, ALL, [], True)
        self.assert_may_go(2, ABLE, [0, 2], [], True)
        self.assert_may_go(2, ABLE, [1, 4], [], True)
        self.assert_may_go(2, ABLE, [0, 3], [], False)
        self.assert_may_go(2, ABLE, [4], [], False)

    def test_some_away(self):
        self.assert_may_go(2, ABLE, ALL, [3], True)
        self.assert_may_go(2, ABLE, ALL, [0, 1], True)
        self.assert_may_go(2, ABLE, ALL, [0, 1, 3], True)
        self.assert_may_go(2, ABLE, ALL, [0, 1, 4], False)
        self.assert_may_go(2, ABLE, ALL, [0, 1, 2], False)

    def test_all_away(self):
        self.assert_may_go(2, ABLE, ALL, ALL, False)
        self.assert_may_go(1, [[0]], [0], [0], False)
        self.assert_may_go(0, [[], []], [0, 1], [0, 1], True)

    def test_hands_that_are_not_there_man_nothing(self):
        self.assert_may_go(2, ABLE, [0, 1, 3], [1], False)
        self.assert_may_go(2, ABLE, [0, 1, 2, 3], [1], True)

    def test_no_posts(self):
        for there in ([], [0], [0, 1, 2]):
            for away in subsets(there):
                self.assert_may_go(0, [[], [], []], there, away, True)

    def test_nobody_there(self):
        self.assert_may_go(0, [[]], [], [], True)
        self.assert_may_go(1, [[0]], [], [], False)
        self.assert_may_go(12, [list(range(12)) for hand in range(12)], [], [], False)

    def test_just_at_the_edge(self):
        hands = list(range(12))
        for posts in range(1, 13):
            able = [list(range(posts)) for hand in hands]
            self.assert_may_go(posts, able, hands, hands[posts:], True)
            self.assert_may_go(posts, able, hands, hands[posts - 1:], False)
        # Enough hands stay, but one post has none of them.
        self.assert_may_go(2, [[0], [0], [0], [1], [1]], ALL, [0, 1, 3], True)
        self.assert_may_go(2, [[0], [0], [0], [1], [1]], ALL, [3, 4], False)

    def test_all_small_houses(self):
        met = {True: 0, False: 0}
        for posts, able in small_houses(2, 3):
            for there in subsets(range(len(able))):
                for away in subsets(there):
                    told = man_by_hand(posts, able, less(there, away))
                    self.assert_may_go(posts, able, there, away, told)
                    met[told] += 1
        self.assertGreater(min(met.values()), 100)


class GrantTest(LeaveCase):
    def assert_granted(self, posts, able, there, asks, granted):
        told = self.told(grant, posts, able, there, asks)
        self.assert_whole_numbers(told)
        self.assertEqual(told, granted, (posts, able, there, asks))

    def test_by_rank(self):
        self.assert_granted(2, ABLE, ALL, [0, 1, 2, 3, 4], [0, 1, 3])
        self.assert_granted(2, ABLE, ALL, [4, 3, 2, 1, 0], [4, 3, 2])
        self.assert_granted(2, ABLE, ALL, [4, 0, 1], [4, 0])
        self.assert_granted(2, ABLE, ALL, [4, 1, 2, 0], [4, 1])

    def test_an_ask_behind_one_that_is_not_granted(self):
        self.assert_granted(1, [[0], [0], []], [0, 1, 2], [0, 1, 2], [0, 2])
        self.assert_granted(2, [[0], [1], [1]], [0, 1, 2], [0, 2, 1], [2])

    def test_the_order_of_the_asks_and_not_of_the_numbers(self):
        self.assert_granted(1, [[0], [0]], [0, 1], [0, 1], [0])
        self.assert_granted(1, [[0], [0]], [0, 1], [1, 0], [1])
        self.assert_granted(0, [[], [], []], [0, 1, 2], [2, 0, 1], [2, 0, 1])
        self.assert_granted(1, [[0], [0], [0], [0]], [0, 1, 2, 3], [3, 1, 0, 2], [3, 1, 0])

    def test_no_asks(self):
        self.assert_granted(2, ABLE, ALL, [], [])
        self.assert_granted(0, [[]], [], [], [])
        self.assert_granted(1, [[0]], [0], [], [])

    def test_all_may_go(self):
        self.assert_granted(2, ABLE, ALL, [3, 1, 4], [3, 1, 4])
        self.assert_granted(2, ABLE, ALL, [3], [3])
        hands = list(range(12))
        self.assert_granted(0, [[] for hand in hands], hands, hands[::-1], hands[::-1])

    def test_none_may_go(self):
        self.assert_granted(2, ABLE, [0, 2], [2, 0], [])
        self.assert_granted(2, ABLE, [1, 4], [1, 4], [])
        hands = list(range(12))
        self.assert_granted(12, [list(range(12)) for hand in hands], hands, hands, [])

    def test_hands_that_are_not_there_help_nobody_to_go(self):
        self.assert_granted(1, [[0], [0], [0]], [0], [0], [])
        self.assert_granted(1, [[0], [0], [0]], [0, 2], [2, 0], [2])

    def test_twelve_hands(self):
        hands = list(range(12))
        able = [[hand % 4] for hand in hands]
        self.assert_granted(4, able, hands, hands, [0, 1, 2, 3, 4, 5, 6, 7])
        self.assert_granted(4, able, hands, [8, 4, 0, 11, 7, 3, 1], [8, 4, 11, 7, 1])
        self.assert_granted(12, [list(range(12)) for hand in hands], hands, [5], [])

    def test_somewhat_beyond_the_bounds(self):
        hands = list(range(16))
        able = [list(range(14)) for hand in hands]
        self.assert_granted(14, able, hands, hands[::-1], [15, 14])

    def test_short(self):
        self.assert_refused(Short, grant, 1, [[]], [0], [0])
        self.assert_refused(Short, grant, 2, ABLE, [0, 3], [3])
        self.assert_refused(Short, grant, 2, ABLE, [4], [4])
        self.assert_refused(Short, grant, 3, [[0], [0], [1, 2]], [0, 1, 2], [0, 1])

    def test_short_with_no_asks(self):
        self.assert_refused(Short, grant, 1, [[]], [0], [])
        self.assert_refused(Short, grant, 1, [[0]], [], [])
        self.assert_refused(Short, grant, 2, ABLE, [0, 3], [])
        self.assert_refused(Short, grant, 12, [list(range(12)) for hand in range(12)], list(range(11)), [])

    def hold_against_ask_by_ask(self, day, met):
        posts, able, there, asks = day
        if not man_by_hand(posts, able, there):
            self.assert_refused(Short, grant, *day)
            met["short"] += 1
            return
        granted = grant_by_hand(*day)
        self.assert_granted(*day, granted)
        met["some" if 0 < len(granted) < len(asks) else "all or none"] += 1

    def test_all_small_days(self):
        met = {"short": 0, "some": 0, "all or none": 0}
        for day in small_days(2, 3):
            self.hold_against_ask_by_ask(day, met)
        self.assertGreater(min(met.values()), 100)

    def test_middling_days(self):
        met = {"short": 0, "some": 0, "all or none": 0}
        for day in chance_days(random.Random(9), 600, 5, 5):
            self.hold_against_ask_by_ask(day, met)
        self.assertGreater(min(met.values()), 50)


class OwnTest(LeaveCase):
    def test_the_list_is_the_askers_own(self):
        self.assert_own(grant, 2, [[0], [0, 1], [1], [], [0, 1]], [0, 1, 2, 3, 4], [4, 3, 2, 1, 0])
        self.assert_own(grant, 0, [[], []], [0, 1], [1, 0])
        self.assert_own(grant, 1, [[0]], [0], [0])
        self.assert_own(grant, 1, [[0]], [0], [])
        self.assert_own(may_go, 1, [[0], [0]], [0, 1], [0])


if __name__ == "__main__":
    unittest.main()
