import random
import unittest

from furlough.errors import NoAsk, Short
from furlough.leaves import grant
from furlough.papers import bound_of, is_granting, paper_of
from helpers import (
    SIXTY, LeaveCase, able_by_hand, chance_days, grant_by_hand, less, man_by_hand, paper_by_hand, rows_of,
    small_days, subsets,
)

# Three posts, six hands; hand 5 can stand nowhere. All but hand 4 ask: 1, 3 and 5 go, 0 and 2 stay.
ABLE = [[0], [0, 1], [1, 2], [2], [1, 2], []]
ALL = [0, 1, 2, 3, 4, 5]
ASKS = [1, 0, 3, 2, 5]
DAY = (3, ABLE, ALL, ASKS)

# Post 1 has no hand that is there.
SHORT_DAY = (2, [[0], [0], [1]], [0, 1], [1, 0])

NO_ASKERS = (4, -1, -2, 6, 7, 40, SIXTY, -SIXTY)


def manned_days(days):
    return [day for day in days if man_by_hand(*day[:3])]


SMALL_DAYS = manned_days(small_days(2, 3))
MIDDLING_DAYS = manned_days(chance_days(random.Random(21), 300, 4, 4))


class PaperOfTest(LeaveCase):
    def assert_paper(self, day, hand, paper):
        told = self.told(paper_of, *day, hand)
        self.assertEqual(told, paper, (day, hand))
        if paper is not None:
            self.assertIs(type(told), tuple)
            for part in told:
                self.assert_whole_numbers(part)

    def test_ordinary(self):
        self.assertEqual(grant(*DAY), [1, 3, 5])
        for hand in (1, 3, 5):
            self.assert_paper(DAY, hand, None)
        self.assert_paper(DAY, 0, ([0], [0]))
        self.assert_paper(DAY, 2, ([1, 2], [2, 4]))

    def test_one_who_is_granted_behind_the_asker_is_no_matter(self):
        day = (2, [[0], [1], [1]], [0, 1, 2], [0, 2, 1])
        self.assert_paper(day, 0, ([0], [0]))
        self.assert_paper(day, 2, None)
        self.assert_paper(day, 1, ([1], [1]))

    def test_only_those_granted_ahead_are_gone(self):
        # Hand 2 is refused ahead of hand 1, and so it is left.
        day = (2, [[0, 1], [0, 1], [0, 1]], [0, 1, 2], [0, 2, 1])
        self.assert_paper(day, 2, ([0, 1], [1, 2]))
        self.assert_paper(day, 1, ([0, 1], [1, 2]))

    def test_left_are_none_but_those_there(self):
        day = (1, [[0], [0], [0], [0]], [1, 3], [3, 1])
        self.assert_paper(day, 3, None)
        self.assert_paper(day, 1, ([0], [1]))

    def test_lacking_is_the_least_set(self):
        # Posts 0 and 1 have a lack as great as post 0 alone, once hand 0 is away.
        day = (2, [[0], [1]], [0, 1], [0])
        self.assert_paper(day, 0, ([0], [0]))

    def test_all_may_go_and_none_may_go(self):
        for hand in (0, 1, 2):
            self.assert_paper((0, [[], [], []], [0, 1, 2], [2, 0, 1]), hand, None)
        hands = list(range(12))
        day = (12, [hands for hand in hands], hands, hands[::-1])
        for hand in hands:
            self.assert_paper(day, hand, (hands, hands))

    def test_all_days(self):
        met = {True: 0, False: 0}
        for day in SMALL_DAYS + MIDDLING_DAYS:
            posts, able, there, asks = day
            granted = grant_by_hand(*day)
            for hand in asks:
                self.assert_paper(day, hand, paper_by_hand(*day, hand))
                paper = paper_of(*day, hand)
                self.assertEqual(paper is None, hand in granted)
                met[paper is None] += 1
                if paper is not None:
                    lacking, left = paper
                    self.assertEqual(len(left), len(lacking))
                    self.assertIn(hand, left)
                    self.assertEqual((lacking, left), (sorted(set(lacking)), sorted(set(left))))
        self.assertGreater(min(met.values()), 200)

    def test_no_ask(self):
        for hand in NO_ASKERS:
            self.assert_refused(NoAsk, paper_of, *DAY, hand)
        self.assert_refused(NoAsk, paper_of, 1, [[0], [0]], [0], [0], 1)
        self.assert_refused(NoAsk, paper_of, 1, [[0], [0]], [0, 1], [], 0)
        self.assert_refused(NoAsk, paper_of, 0, [[]], [], [], 0)

    def test_no_ask_goes_ahead_of_short(self):
        for hand in (2, -1, 3, SIXTY, -SIXTY):
            self.assert_refused(NoAsk, paper_of, *SHORT_DAY, hand)
        for hand in (0, 1, -1, 2, SIXTY):
            self.assert_refused(NoAsk, paper_of, 2, [[0], [1]], [0], [], hand)

    def test_short(self):
        for hand in (0, 1):
            self.assert_refused(Short, paper_of, *SHORT_DAY, hand)
        self.assert_refused(Short, paper_of, 1, [[]], [0], [0], 0)


class IsGrantingTest(LeaveCase):
    def assert_told(self, day, granted, told):
        self.assertIs(self.told(is_granting, *day, granted), told, (day, granted))

    def test_the_row_granted(self):
        self.assert_told(DAY, [1, 3, 5], True)
        self.assert_told(DAY, grant(*DAY), True)

    def test_one_left_out(self):
        for granted in ([3, 5], [1, 5], [1, 3]):
            self.assert_told(DAY, granted, False)

    def test_one_put_in(self):
        for granted in ([1, 0, 3, 5], [1, 3, 2, 5], [1, 3, 5, 4], [4, 1, 3, 5]):
            self.assert_told(DAY, granted, False)

    def test_two_changed(self):
        for granted in ([0, 3, 5], [1, 2, 5], [3, 1, 5], [1, 5, 3], [5, 3, 1]):
            self.assert_told(DAY, granted, False)

    def test_one_twice(self):
        for granted in ([1, 1, 3, 5], [1, 3, 3, 5], [1, 3, 5, 5], [1, 3, 5, 1], [1, 3, 5] * 2, [1, 3, 5] * 13):
            self.assert_told(DAY, granted, False)

    def test_no_row_and_all_asks(self):
        self.assert_told(DAY, [], False)
        self.assert_told(DAY, ASKS, False)
        self.assert_told((2, ABLE, [0, 1], [1, 0]), [], True)
        self.assert_told((2, ABLE, [0, 1], [1, 0]), [1, 0], False)
        self.assert_told((0, [[], []], [0, 1], [1, 0]), [1, 0], True)
        self.assert_told((0, [[], []], [0, 1], [1, 0]), [0, 1], False)
        self.assert_told((0, [[], []], [0, 1], [1, 0]), [], False)
        self.assert_told((1, [[0]], [0], []), [], True)
        self.assert_told((1, [[0], [0]], [0, 1], []), [0], False)

    def test_one_of_lesser_rank_in_the_place_of_one_of_greater(self):
        day = (1, [[0], [0]], [0, 1], [1, 0])
        self.assert_told(day, [1], True)
        self.assert_told(day, [0], False)

    def test_numbers_that_ask_nothing(self):
        for number in NO_ASKERS:
            self.assert_told(DAY, [number], False)
            self.assert_told(DAY, [1, 3, 5, number], False)
            self.assert_told(DAY, [number, 1, 3, 5], False)
            self.assert_told(DAY, [1, number, 5], False)
            self.assert_told(DAY, [number] * 40, False)
            self.assert_told(DAY, [1, 3, 5] + [number] * 37, False)
        self.assert_told(DAY, list(range(40)), False)
        self.assert_told(DAY, [SIXTY - number for number in range(40)], False)
        self.assert_told((1, [[0]], [0], []), [-1], False)

    def right_by_hand(self, posts, able, there, asks, granted):
        if granted != [hand for hand in asks if hand in granted]:
            return False
        if not man_by_hand(posts, able, less(there, granted)):
            return False
        for place, hand in enumerate(asks):
            ahead = [other for other in asks[:place] if other in granted]
            if hand not in granted and man_by_hand(posts, able, less(there, ahead + [hand])):
                return False
        return True

    def test_of_all_rows_just_one_is_right(self):
        for day in SMALL_DAYS + MIDDLING_DAYS[:100]:
            right = []
            for granted in subsets(day[3]):
                told = self.right_by_hand(*day, granted)
                self.assert_told(day, granted, told)
                right = right + [granted] * told
            self.assertEqual(right, [grant_by_hand(*day)])

    def test_all_rows_in_all_orders(self):
        for day in SMALL_DAYS:
            granted = grant_by_hand(*day)
            for row in rows_of(range(len(day[1]))):
                self.assert_told(day, row, row == granted)

    def test_short(self):
        for granted in ([], [0], [1], [1, 0], [0, 1], [0, 0], [2], [-1], [SIXTY], [-SIXTY] * 40, list(range(40))):
            self.assert_refused(Short, is_granting, *SHORT_DAY, granted)
            self.assert_refused(Short, is_granting, 1, [[0]], [], [], granted)


class BoundOfTest(LeaveCase):
    def assert_bound(self, day, bound):
        told = self.told(bound_of, *day)
        self.assertIs(type(told), tuple)
        self.assertEqual(told, bound, day)
        self.assertEqual([type(told[0]), type(told[2])], [int, int])
        self.assert_whole_numbers(told[1])
        self.assert_whole_numbers(told[3])

    def test_ordinary(self):
        # All posts stand in a paper, those of hand 0 and of hand 2.
        self.assert_bound(DAY, (3, [0, 1, 2], 2, [5]))

    def test_some_posts_stand_in_no_paper(self):
        self.assert_bound((2, [[0], [1], [1]], [0, 1, 2], [2, 0]), (1, [0], 0, [2]))
        self.assert_bound((2, [[0], [0], [1], [1], [1]], [0, 1, 2, 3, 4], [4, 1, 2, 0]), (3, [0], 1, [4, 2]))

    def test_a_post_in_two_papers_is_told_once(self):
        self.assert_bound((1, [[0], [0], [0]], [0, 1, 2], [2, 1, 0]), (2, [0], 2, []))
        self.assert_bound((2, [[0, 1], [0, 1]], [0, 1], [1, 0]), (0, [0, 1], 0, []))

    def test_posts_rise_and_others_have_the_order_of_the_asks(self):
        day = (3, [[2], [0], [1], [1], [], []], [0, 1, 2, 3, 4, 5], [5, 0, 3, 1, 4])
        self.assert_bound(day, (3, [0, 2], 0, [5, 3, 4]))

    def test_others_ask_and_spare_are_there(self):
        # Hands 2 and 3 are able for post 0, too, but not there; hand 4 is there and asks nothing.
        self.assert_bound((1, [[0], [0], [0], [0], []], [0, 1, 4], [1, 0]), (1, [0], 1, []))

    def test_no_asks(self):
        self.assert_bound((3, ABLE, ALL, []), (0, [], 0, []))
        self.assert_bound((0, [[]], [], []), (0, [], 0, []))
        self.assert_bound((1, [[0]], [0], []), (0, [], 0, []))

    def test_no_ask_refused(self):
        self.assert_bound((3, ABLE, ALL, [5, 1, 4]), (3, [], 0, [5, 1, 4]))
        self.assert_bound((0, [[], [], []], [0, 1, 2], [2, 0, 1]), (3, [], 0, [2, 0, 1]))

    def test_twelve_hands(self):
        hands = list(range(12))
        self.assert_bound((12, [hands for hand in hands], hands, hands), (0, hands, 0, []))
        self.assert_bound((4, [[hand % 4] for hand in hands], hands, [8, 4, 0, 11, 7]), (4, [0], 2, [11, 7]))

    def bound_by_hand(self, posts, able, there, asks):
        papers = [paper_by_hand(posts, able, there, asks, hand) for hand in asks]
        shown = sorted({post for paper in papers if paper for post in paper[0]})
        spare = len(able_by_hand(able, there, shown)) - len(shown)
        others = [hand for hand in asks if not set(able[hand]) & set(shown)]
        return spare + len(others), shown, spare, others

    def test_all_days(self):
        shown = 0
        for day in SMALL_DAYS + MIDDLING_DAYS:
            bound = self.bound_by_hand(*day)
            self.assert_bound(day, bound)
            self.assertEqual(bound_of(*day)[0], len(grant(*day)))
            shown += 0 < len(bound[1]) < day[0]
        self.assertGreater(shown, 50)

    def test_of_no_asks_that_may_go_there_are_more(self):
        for day in SMALL_DAYS + MIDDLING_DAYS[:100]:
            posts, able, there, asks = day
            may = [some for some in subsets(asks) if man_by_hand(posts, able, less(there, some))]
            self.assertEqual(max(len(some) for some in may), bound_of(*day)[0], day)

    def test_short(self):
        self.assert_refused(Short, bound_of, *SHORT_DAY)
        self.assert_refused(Short, bound_of, 1, [[0]], [], [])
        self.assert_refused(Short, bound_of, 2, [[0], [0]], [0, 1], [])
        self.assert_refused(Short, bound_of, 1, [[]], [0], [0])


class OwnTest(LeaveCase):
    days = (
        (3, [[0], [0, 1], [1, 2], [2], [1, 2], []], [0, 1, 2, 3, 4, 5], [1, 0, 3, 2, 5]),
        (2, [[0, 1], [0, 1]], [0, 1], [0, 1]),
        (0, [[], []], [0, 1], [1, 0]),
    )

    def copied(self, day):
        posts, able, there, asks = day
        return posts, [list(row) for row in able], list(there), list(asks)

    def test_papers(self):
        for day in self.days:
            for hand in day[3]:
                self.assert_own(paper_of, *self.copied(day), hand)

    def test_rightness(self):
        for day in self.days:
            self.assert_own(is_granting, *self.copied(day), grant(*day))
            self.assert_own(is_granting, *self.copied(day), [])

    def test_bounds(self):
        for day in self.days:
            self.assert_own(bound_of, *self.copied(day))
        self.assert_own(bound_of, 1, [[0]], [0], [])


if __name__ == "__main__":
    unittest.main()
