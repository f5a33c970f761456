import random
import unittest

from furlough.changes import fallen_ill
from furlough.errors import NoHand, Short
from helpers import SIXTY, LeaveCase, chance_days, grant_by_hand, less, man_by_hand, small_days

# Two posts, five hands; hand 3 can stand nowhere.
ABLE = [[0], [0, 1], [1], [], [0, 1]]
ALL = [0, 1, 2, 3, 4]

# Post 1 has no hand that is there.
SHORT_DAY = (2, [[0], [0], [1]], [0, 1], [1, 0])


class FallenIllTest(LeaveCase):
    def assert_told(self, day, hand, granted, called):
        told = self.told(fallen_ill, *day, hand)
        self.assertIs(type(told), tuple)
        self.assertEqual(told, (granted, called), (day, hand))
        self.assert_whole_numbers(told[0])
        self.assertIn(type(told[1]), (int, type(None)))

    def test_one_who_asks_and_is_granted(self):
        # 4, 3 and 2 go.
        day = (2, ABLE, ALL, [4, 3, 2, 1, 0])
        self.assert_told(day, 4, [3, 2], None)
        self.assert_told(day, 3, [4, 2], None)
        self.assert_told(day, 2, [4, 3], None)

    def test_one_who_asks_and_is_not_granted(self):
        day = (2, ABLE, ALL, [4, 3, 2, 1, 0])
        self.assert_told(day, 1, [4, 3], 2)
        self.assert_told(day, 0, [4, 3], 2)

    def test_one_who_does_not_ask(self):
        self.assert_told((2, ABLE, ALL, [4, 1]), 3, [4, 1], None)
        self.assert_told((2, ABLE, ALL, [4, 1]), 0, [4], 1)
        self.assert_told((2, ABLE, ALL, [4]), 0, [4], None)
        self.assert_told((2, ABLE, ALL, []), 0, [], None)

    def test_hand_number_0_is_called_back(self):
        self.assert_told((1, [[0], [0]], [0, 1], [0]), 1, [], 0)

    def test_the_one_called_back_is_not_always_the_last(self):
        # Hands 0 and 1 go, hand 1 from post 1; the ill hand 2 stood at post 0.
        day = (2, [[0], [1], [0], [1]], [0, 1, 2, 3], [0, 1])
        self.assert_told(day, 2, [1], 0)
        self.assert_told(day, 3, [0], 1)

    def test_the_order_of_the_asks_stays(self):
        self.assert_told((0, [[], [], [], []], [0, 1, 2, 3], [3, 0, 2, 1]), 0, [3, 2, 1], None)

    def test_no_posts(self):
        self.assert_told((0, [[]], [0], [0]), 0, [], None)
        self.assert_told((0, [[]], [0], []), 0, [], None)

    def test_no_hand(self):
        day = (1, [[0], [0], [0], [0]], [0, 2, 3], [2])
        for hand in (1, -1, -2, -4, 4, 5, 40, SIXTY, -SIXTY):
            self.assert_refused(NoHand, fallen_ill, *day, hand)
        self.assert_refused(NoHand, fallen_ill, 0, [[]], [], [], 0)

    def test_no_hand_goes_ahead_of_short(self):
        for hand in (2, -1, 3, SIXTY, -SIXTY):
            self.assert_refused(NoHand, fallen_ill, *SHORT_DAY, hand)
        for hand in (0, -1, 1, SIXTY):
            self.assert_refused(NoHand, fallen_ill, 1, [[0]], [], [], hand)

    def test_short_where_those_left_cannot_man(self):
        self.assert_refused(Short, fallen_ill, 1, [[0]], [0], [], 0)
        self.assert_refused(Short, fallen_ill, 1, [[0]], [0], [0], 0)
        self.assert_refused(Short, fallen_ill, 2, ABLE, [0, 2, 3], [3], 0)
        self.assert_refused(Short, fallen_ill, 2, ABLE, [0, 2, 3], [], 2)
        self.assert_told((2, ABLE, [0, 2, 3], [3]), 3, [], None)

    def test_short_where_those_there_could_not(self):
        for hand in (0, 1):
            self.assert_refused(Short, fallen_ill, *SHORT_DAY, hand)
        self.assert_refused(Short, fallen_ill, 1, [[]], [0], [], 0)

    def hold_against_granting_anew(self, day, met):
        posts, able, there, asks = day
        for hand in there:
            left = less(there, [hand])
            if not man_by_hand(posts, able, left):
                self.assert_refused(Short, fallen_ill, *day, hand)
                met["short"] += 1
                continue
            before = grant_by_hand(*day)
            granted = grant_by_hand(posts, able, left, less(asks, [hand]))
            called = less(before, granted + [hand])
            self.assertLessEqual(len(called), 1, (day, hand))
            self.assertEqual(less(granted, before), [], (day, hand))
            self.assert_told(day, hand, granted, called[0] if called else None)
            met["called" if called else "none called"] += 1

    def test_all_small_days(self):
        met = {"short": 0, "called": 0, "none called": 0}
        for day in small_days(2, 3):
            self.hold_against_granting_anew(day, met)
        self.assertGreater(min(met.values()), 100)

    def test_middling_days(self):
        met = {"short": 0, "called": 0, "none called": 0}
        for day in chance_days(random.Random(14), 300, 5, 4):
            self.hold_against_granting_anew(day, met)
        self.assertGreater(min(met.values()), 100)


class OwnTest(LeaveCase):
    def test_the_list_is_the_askers_own(self):
        for hand in (0, 2, 4):
            self.assert_own(fallen_ill, 2, [[0], [0, 1], [1], [], [0, 1]], [0, 1, 2, 3, 4], [4, 3, 2, 1, 0], hand)
        self.assert_own(fallen_ill, 0, [[], []], [0, 1], [1], 0)
        self.assert_own(fallen_ill, 0, [[], []], [0, 1], [], 0)


if __name__ == "__main__":
    unittest.main()
