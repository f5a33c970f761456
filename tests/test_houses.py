import copy
import unittest

from furlough.houses import able_for, is_house, lack_of

SIXTY = 10 ** 60 - 1
ALL_POSTS = list(range(12))

# Five hands and four posts; hand 2 can stand nowhere, hand 4 everywhere.
ABLE = [[0], [0, 1], [], [2], [0, 1, 2, 3]]


class IsHouseTest(unittest.TestCase):
    def assert_house(self, posts, able):
        self.assertIs(is_house(posts, able), True, (posts, able))

    def assert_no_house(self, posts, able):
        self.assertIs(is_house(posts, able), False, (posts, able))

    def test_ordinary(self):
        self.assert_house(4, ABLE)
        self.assert_house(2, [[0], [1], [0, 1]])

    def test_number_of_posts(self):
        self.assert_house(0, [[]])
        self.assert_house(0, [[], [], []])
        self.assert_house(1, [[0]])
        self.assert_house(12, [ALL_POSTS])
        self.assert_house(12, [[11]])
        for posts in (-1, -2, -12, -SIXTY, 13, 14, 40, SIXTY):
            self.assert_no_house(posts, [[]])
            self.assert_no_house(posts, [[0]])
            self.assert_no_house(posts, [[0, 1], [1]])

    def test_number_of_hands(self):
        for hands in range(1, 13):
            self.assert_house(0, [[] for hand in range(hands)])
            self.assert_house(12, [[] for hand in range(hands)])
            self.assert_house(12, [list(ALL_POSTS) for hand in range(hands)])
        for posts in (0, 1, 12):
            for hands in (0, 13, 14, 40):
                self.assert_no_house(posts, [[] for hand in range(hands)])
                self.assert_no_house(posts, [list(range(posts)) for hand in range(hands)])
        self.assert_no_house(-1, [])

    def test_a_post_that_there_is_not(self):
        for posts in (0, 1, 2, 11, 12):
            for post in (-1, -2, -posts - 1, -SIXTY, posts, posts + 1, 40, SIXTY):
                self.assert_no_house(posts, [[post]])
                self.assert_no_house(posts, [[], [post]])
                self.assert_no_house(posts, [[post], []])

    def test_a_post_that_there_is_not_among_those_there_are(self):
        self.assert_no_house(3, [[0, 1, 3]])
        self.assert_no_house(3, [[-1, 0, 1]])
        self.assert_no_house(3, [[0, 1, SIXTY]])
        self.assert_no_house(3, [[-SIXTY, 0, 1]])
        self.assert_no_house(12, [ALL_POSTS + [12]])
        self.assert_no_house(12, [[-1] + ALL_POSTS])
        self.assert_no_house(12, [ALL_POSTS] * 11 + [ALL_POSTS + [12]])

    def test_each_post_rises(self):
        self.assert_house(3, [[0, 2]])
        self.assert_no_house(3, [[0, 0]])
        self.assert_no_house(3, [[2, 2]])
        self.assert_no_house(3, [[0, 1, 1]])
        self.assert_no_house(3, [[0, 1, 0]])
        self.assert_no_house(3, [[1, 0]])
        self.assert_no_house(3, [[0, 2, 1]])
        self.assert_no_house(3, [[0, 1, 2], [], [2, 1]])
        self.assert_no_house(12, [ALL_POSTS, ALL_POSTS[::-1]])
        self.assert_no_house(12, [ALL_POSTS + [11]])

    def test_a_hand_with_forty_numbers(self):
        self.assert_no_house(12, [list(range(40))])
        self.assert_no_house(12, [[0] * 40])
        self.assert_no_house(12, [[11] * 40])
        self.assert_no_house(12, [[], list(range(-28, 12))])
        self.assert_no_house(0, [[0] * 40])
        self.assert_no_house(12, [list(range(40)) for hand in range(40)])
        self.assert_no_house(12, [[SIXTY] * 40 for hand in range(40)])

    def test_hands_may_be_able_alike(self):
        row = [0, 1]
        self.assert_house(2, [row, row, [0, 1]])


class AbleForTest(unittest.TestCase):
    def test_all_some_and_no_hands(self):
        self.assertEqual(able_for(ABLE, [0, 1, 2, 3, 4], [0]), [0, 1, 4])
        self.assertEqual(able_for(ABLE, [1, 2, 3], [0]), [1])
        self.assertEqual(able_for(ABLE, [2, 3], [0]), [])
        self.assertEqual(able_for(ABLE, [], [0, 1, 2, 3]), [])

    def test_all_some_and_no_posts(self):
        self.assertEqual(able_for(ABLE, [0, 1, 2, 3, 4], [0, 1, 2, 3]), [0, 1, 3, 4])
        self.assertEqual(able_for(ABLE, [0, 1, 2, 3, 4], [1, 2]), [1, 3, 4])
        self.assertEqual(able_for(ABLE, [0, 1, 2, 3, 4], [3]), [4])
        self.assertEqual(able_for(ABLE, [0, 1, 2, 3, 4], []), [])
        self.assertEqual(able_for(ABLE, [], []), [])

    def test_a_hand_able_for_several_stands_once(self):
        self.assertEqual(able_for(ABLE, [1, 4], [0, 1]), [1, 4])

    def test_a_hand_without_posts_is_able_for_none(self):
        self.assertEqual(able_for(ABLE, [2], [0, 1, 2, 3]), [])

    def test_the_list_rises(self):
        able = [[hand % 3] for hand in range(12)]
        self.assertEqual(able_for(able, list(range(12)), [0, 2]), [0, 2, 3, 5, 6, 8, 9, 11])
        self.assertEqual(able_for(able, [1, 3, 5, 7, 9, 11], [0, 2]), [3, 5, 9, 11])


class LackOfTest(unittest.TestCase):
    def assert_lack(self, hands, some, lack):
        got = lack_of(ABLE, hands, some)
        self.assertIs(type(got), int)
        self.assertEqual(got, lack, (hands, some))

    def test_below_nought(self):
        self.assert_lack([0, 1, 2, 3, 4], [0], -2)
        self.assert_lack([0, 1, 4], [0, 1], -1)
        able = [[0] for hand in range(12)]
        self.assertEqual(lack_of(able, list(range(12)), [0]), -11)

    def test_nought(self):
        self.assert_lack([0, 1, 2, 3, 4], [], 0)
        self.assert_lack([], [], 0)
        self.assert_lack([0, 1, 2, 3, 4], [3], 0)
        self.assert_lack([0, 1, 2, 3, 4], [0, 1, 2, 3], 0)

    def test_above_nought(self):
        self.assert_lack([0, 1, 2, 3], [3], 1)
        self.assert_lack([2], [0, 1, 2], 3)
        self.assert_lack([], [0, 1, 2, 3], 4)
        self.assert_lack([4], [0, 3], 1)


class NothingIsChangedTest(unittest.TestCase):
    def test_is_house_changes_nothing(self):
        for posts, able in ((4, ABLE), (2, [[1, 0], [5], [-1]]), (0, [])):
            handed = copy.deepcopy(able)
            is_house(posts, handed)
            self.assertEqual(handed, able)

    def test_able_for_and_lack_of_change_nothing(self):
        for asked in (able_for, lack_of):
            able, hands, some = copy.deepcopy(ABLE), [0, 1, 3], [0, 2]
            asked(able, hands, some)
            self.assertEqual((able, hands, some), (ABLE, [0, 1, 3], [0, 2]))

    def test_the_list_is_the_askers_own(self):
        able, hands, some = copy.deepcopy(ABLE), [0, 1, 4], [0]
        first = able_for(able, hands, some)
        self.assertEqual(first, [0, 1, 4])
        first.append(99)
        first[0] = 77
        self.assertEqual((able, hands, some), (ABLE, [0, 1, 4], [0]))
        self.assertEqual(able_for(able, hands, some), [0, 1, 4])
        self.assertEqual(lack_of(able, hands, some), -2)

    def test_a_list_told_does_not_follow_what_was_handed_in(self):
        able, hands, some = copy.deepcopy(ABLE), [0, 1, 4], [0]
        first = able_for(able, hands, some)
        hands.clear()
        some.append(2)
        able[0].clear()
        self.assertEqual(first, [0, 1, 4])
        self.assertEqual(able_for(able, [0, 1, 3, 4], [0]), [1, 4])

    def test_an_empty_list_told_is_the_askers_own(self):
        hands, some = [], []
        able_for(ABLE, hands, some).append(5)
        self.assertEqual((hands, some), ([], []))
        self.assertEqual(able_for(ABLE, hands, some), [])


if __name__ == "__main__":
    unittest.main()
