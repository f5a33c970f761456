"""What holds over granting, papers, bounds and changes together."""

import random
import unittest

from furlough.changes import fallen_ill
from furlough.errors import Short
from furlough.leaves import grant, may_go
from furlough.papers import bound_of, is_granting, paper_of
from helpers import chance_days, less, man_by_hand, small_days, subsets

ALL_DAYS = list(small_days(2, 3)) + list(chance_days(random.Random(33), 300, 4, 4))
DAYS = [day for day in ALL_DAYS if man_by_hand(*day[:3])]


def without_post(able, gone):
    """Able once a post is no more, and those behind it are numbered anew."""
    return [[post - (post > gone) for post in row if post != gone] for row in able]


class WholeTest(unittest.TestCase):
    def assert_kept(self, granted, later, day):
        self.assertEqual(less(granted, later), [], day)

    def test_just_one_row_is_right_and_it_is_granted(self):
        for day in DAYS:
            right = [row for row in subsets(day[3]) if is_granting(*day, row)]
            self.assertEqual(right, [grant(*day)], day)

    def test_those_who_stay_man_and_each_other_ask_has_a_paper(self):
        for day in DAYS:
            posts, able, there, asks = day
            granted = grant(*day)
            self.assertIs(may_go(posts, able, there, sorted(granted)), True, day)
            self.assertEqual([hand for hand in asks if paper_of(*day, hand) is None], granted, day)

    def test_no_greater_number_could_be_granted(self):
        for day in DAYS:
            posts, able, there, asks = day
            granted = grant(*day)
            for some in subsets(asks):
                if len(some) > len(granted):
                    self.assertIs(may_go(posts, able, there, sorted(some)), False, day)
            self.assertEqual(bound_of(*day)[0], len(granted), day)

    def test_whoever_withdraws_takes_nobody_elses_leave(self):
        new = 0
        for day in DAYS:
            posts, able, there, asks = day
            granted = grant(*day)
            for hand in asks:
                later = grant(posts, able, there, less(asks, [hand]))
                self.assert_kept(less(granted, [hand]), later, day)
                new += len(less(later, granted))
        self.assertGreater(new, 100)

    def test_a_hand_more_takes_nobodys_leave(self):
        new = 0
        for day in DAYS:
            posts, able, there, asks = day
            granted = grant(*day)
            for hand in less(range(len(able)), there):
                later = grant(posts, able, sorted(there + [hand]), asks)
                self.assert_kept(granted, later, day)
                new += len(less(later, granted))
        self.assertGreater(new, 100)

    def test_a_post_less_takes_nobodys_leave(self):
        new = 0
        for day in DAYS:
            posts, able, there, asks = day
            granted = grant(*day)
            for post in range(posts):
                later = grant(posts - 1, without_post(able, post), there, asks)
                self.assert_kept(granted, later, day)
                new += len(less(later, granted))
        self.assertGreater(new, 100)

    def test_when_a_hand_falls_ill_one_leave_at_most_is_called_back_and_none_is_new(self):
        called_back = 0
        for day in DAYS:
            granted = grant(*day)
            for hand in day[2]:
                try:
                    later, called = fallen_ill(*day, hand)
                except Short:
                    continue
                gone = less(granted, later + [hand])
                self.assertEqual(gone, [] if called is None else [called], day)
                self.assert_kept(later, granted, day)
                called_back += len(gone)
        self.assertGreater(called_back, 100)


if __name__ == "__main__":
    unittest.main()
