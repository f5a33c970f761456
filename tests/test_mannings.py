import copy
import itertools
import random
import unittest

from furlough.mannings import is_manning, manning_of
from helpers import SIXTY, chance_house, least_sets_with_greatest_lack, small_houses, subsets


def is_manning_by_hand(posts, able, hands, places):
    return any(
        list(stand) == places and all(post in able[hand] for post, hand in enumerate(stand))
        for stand in itertools.permutations(hands, posts)
    )


class ManningCase(unittest.TestCase):
    def assert_true_manning(self, posts, able, hands, places):
        self.assertIs(type(places), list)
        self.assertEqual(len(places), posts)
        self.assertEqual(len(set(places)), posts)
        for post, hand in enumerate(places):
            self.assertIn(hand, hands)
            self.assertIn(post, able[hand])
        self.assertIs(is_manning(posts, able, hands, places), True)

    def assert_manned(self, posts, able, hands):
        told = manning_of(posts, able, hands)
        self.assertIs(type(told), tuple)
        self.assertEqual(len(told), 2)
        self.assertEqual(told[0], "manned", (posts, able, hands, told))
        self.assert_true_manning(posts, able, hands, told[1])

    def assert_short(self, posts, able, hands, lacking):
        told = manning_of(posts, able, hands)
        self.assertIs(type(told), tuple)
        self.assertEqual(told, ("short", lacking), (posts, able, hands))


class ManningOfTest(ManningCase):
    def test_manned(self):
        self.assert_manned(1, [[0]], [0])
        self.assert_manned(2, [[0, 1], [0]], [0, 1])
        self.assert_manned(2, [[0], [0, 1]], [0, 1])
        self.assert_manned(3, [[0, 1, 2], [0, 1], [0]], [0, 1, 2])
        self.assert_manned(2, [[], [1], [], [0], [0, 1]], [1, 3])

    def test_hands_may_be_left_over(self):
        self.assert_manned(1, [[0], [0], []], [0, 1, 2])
        self.assertEqual(manning_of(1, [[], [], [0]], [0, 1, 2]), ("manned", [2]))

    def test_only_the_hands_told_stand(self):
        able = [[0], [0], [0]]
        for hand in range(3):
            self.assertEqual(manning_of(1, able, [hand]), ("manned", [hand]))
        self.assert_short(2, [[0], [1], [0]], [0, 2], [1])

    def test_short(self):
        self.assert_short(1, [[]], [0], [0])
        self.assert_short(2, [[0, 1]], [0], [0, 1])
        self.assert_short(2, [[0]], [0], [1])
        self.assert_short(3, [[0, 1], [2], [2]], [0, 1, 2], [0, 1])
        self.assert_short(3, [[0], [0, 2], [0, 2]], [0, 1, 2], [1])

    def test_the_least_set_has_no_post_that_lacks_none(self):
        # Posts 0 and 1 have a lack of 1; with post 2, which just one hand is able for, still 1.
        self.assert_short(3, [[0, 1], [2]], [0, 1], [0, 1])
        self.assert_short(4, [[0], [1, 2], [3]], [0, 1, 2], [1, 2])

    def test_several_lacks_are_told_together(self):
        self.assert_short(4, [[0, 1], [2, 3]], [0, 1], [0, 1, 2, 3])
        self.assert_short(5, [[0, 4], [2]], [0, 1], [0, 1, 3, 4])

    def test_no_posts(self):
        self.assertEqual(manning_of(0, [[]], [0]), ("manned", []))
        self.assertEqual(manning_of(0, [[]], []), ("manned", []))
        self.assertEqual(manning_of(0, [[] for hand in range(12)], list(range(12))), ("manned", []))

    def test_no_hands(self):
        self.assert_short(1, [[0]], [], [0])
        self.assert_short(12, [list(range(12)) for hand in range(12)], [], list(range(12)))

    def test_twelve_posts_and_twelve_hands_that_man(self):
        hands = list(range(12))
        self.assert_manned(12, [list(range(12)) for hand in hands], hands)
        self.assertEqual(manning_of(12, [[11 - hand] for hand in hands], hands), ("manned", hands[::-1]))
        self.assert_manned(12, [list(range(hand + 1)) for hand in hands], hands)
        self.assert_manned(12, [list(range(hand, 12)) for hand in hands], hands)

    def test_one_post_more_moves_all_the_others(self):
        # Only hand 0 can stand at the last post: when it goes there, every other hand moves by one.
        for size in (2, 3, 12, 30):
            able = [[0, size - 1]] + [[hand - 1, hand] for hand in range(1, size - 1)] + [[size - 2]]
            self.assert_manned(size, able, list(range(size)))
            turned = [sorted(size - 1 - post for post in row) for row in able]
            self.assert_manned(size, turned, list(range(size)))

    def test_twelve_posts_and_twelve_hands_that_do_not(self):
        hands = list(range(12))
        self.assert_short(12, [list(range(11)) for hand in hands], hands, [11])
        self.assert_short(12, [list(range(1, 12)) for hand in hands], hands, [0])
        self.assert_short(12, [[] for hand in hands], hands, hands)
        self.assert_short(12, [[0] for hand in hands], hands, list(range(1, 12)))
        self.assert_short(12, [list(range(12)) for hand in hands], hands[:11], hands)
        self.assert_short(12, [[hand // 2 * 2] for hand in hands], hands, [1, 3, 5, 7, 9, 11])

    def test_somewhat_beyond_the_bounds(self):
        hands = list(range(40))
        self.assert_manned(40, [list(range(40)) for hand in hands], hands)
        self.assert_short(40, [list(range(39)) for hand in hands], hands, [39])
        self.assert_short(40, [list(range(40)) for hand in hands], hands[1:], hands)


class AllSetsTest(ManningCase):
    def hold_against_all_sets(self, posts, able, hands):
        greatest, sets = least_sets_with_greatest_lack(posts, able, hands)
        if greatest > 0:
            self.assert_short(posts, able, hands, sets[0])
            for other in sets[1:]:
                self.assertLess(len(sets[0]), len(other))
                self.assertLessEqual(set(sets[0]), set(other))
        else:
            self.assert_manned(posts, able, hands)
        self.assertEqual(manning_of(posts, able, hands), manning_of(posts, able, hands))
        return greatest > 0

    def test_all_small_houses(self):
        met = {True: 0, False: 0}
        for posts, able in small_houses(3, 3):
            for hands in subsets(range(len(able))):
                met[self.hold_against_all_sets(posts, able, hands)] += 1
        self.assertGreater(min(met.values()), 100)

    def test_middling_houses(self):
        chance = random.Random(7)
        met = {True: 0, False: 0}
        for turn in range(1500):
            posts, count = chance.randrange(4, 7), chance.randrange(3, 10)
            able, hands = chance_house(chance, posts, count, chance.choice([0.15, 0.3, 0.5]))
            met[self.hold_against_all_sets(posts, able, hands)] += 1
        self.assertGreater(min(met.values()), 100)

    def test_great_houses(self):
        chance = random.Random(12)
        met = {True: 0, False: 0}
        for turn in range(60):
            able, hands = chance_house(chance, 12, 12, chance.choice([0.15, 0.25, 0.35]))
            hands = hands if turn % 3 == 0 else list(range(12))
            met[self.hold_against_all_sets(12, able, hands)] += 1
        self.assertGreater(min(met.values()), 10)


class IsManningTest(unittest.TestCase):
    # Three posts, five hands; hand 3 can stand nowhere, hand 4 everywhere.
    able = [[0], [0, 1], [2], [], [0, 1, 2]]
    hands = [0, 1, 2, 3, 4]

    def assert_told(self, hands, places, told):
        self.assertIs(is_manning(3, self.able, hands, places), told, (hands, places))

    def test_true_mannings(self):
        self.assert_told(self.hands, [0, 1, 2], True)
        self.assert_told(self.hands, [1, 4, 2], True)
        self.assert_told(self.hands, [0, 1, 4], True)
        self.assert_told([0, 1, 2], [0, 1, 2], True)

    def test_too_short_and_too_long(self):
        for places in ([], [0], [0, 1], [0, 1, 2, 4], [0, 1, 2, 0], [0, 1, 2, 3, 4], [0, 1, 2] * 13, [4] * 40):
            self.assert_told(self.hands, places, False)
        self.assert_told(self.hands, list(range(40)), False)
        self.assert_told(self.hands, [0, 1, 2] + list(range(5, 42)), False)

    def test_empty(self):
        self.assertIs(is_manning(0, [[]], [0], []), True)
        self.assertIs(is_manning(0, [[]], [], []), True)
        self.assertIs(is_manning(0, [[]], [0], [0]), False)
        self.assertIs(is_manning(0, [[]], [0], [0] * 40), False)
        self.assertIs(is_manning(1, [[0]], [0], []), False)
        self.assertIs(is_manning(12, [[0]], [0], []), False)

    def test_a_hand_twice(self):
        self.assert_told(self.hands, [4, 4, 2], False)
        self.assert_told(self.hands, [4, 1, 4], False)
        self.assert_told(self.hands, [4, 4, 4], False)
        self.assert_told(self.hands, [1, 1, 2], False)

    def test_a_hand_that_is_not_able(self):
        self.assert_told(self.hands, [2, 1, 4], False)
        self.assert_told(self.hands, [4, 0, 2], False)
        self.assert_told(self.hands, [0, 4, 1], False)
        self.assert_told(self.hands, [0, 3, 2], False)

    def test_a_hand_that_is_not_told(self):
        self.assert_told([0, 1, 3, 4], [0, 1, 2], False)
        self.assert_told([1, 2], [0, 1, 2], False)
        self.assert_told([], [0, 1, 2], False)

    def test_numbers_that_no_hand_has(self):
        for number in (-1, -2, -5, -6, 5, 6, 40, SIXTY, -SIXTY):
            for at in range(3):
                places = [0, 1, 4]
                places[at] = number
                self.assert_told(self.hands, places, False)
            self.assert_told(self.hands, [number] * 3, False)
            self.assert_told(self.hands, [number] * 40, False)

    def test_twelve(self):
        hands = list(range(12))
        able = [list(range(12)) for hand in hands]
        self.assertIs(is_manning(12, able, hands, hands[::-1]), True)
        self.assertIs(is_manning(12, able, hands, hands[:11] + [0]), False)
        self.assertIs(is_manning(12, able, hands[:11], hands), False)
        self.assertIs(is_manning(12, able, hands, hands[:11]), False)

    def test_all_lists_over_small_houses(self):
        chance = random.Random(3)
        for turn in range(40):
            posts = chance.randrange(4)
            able, hands = chance_house(chance, posts, 4, 0.6)
            for size in range(posts + 2):
                for places in itertools.product(range(-2, 6), repeat=size):
                    told = is_manning_by_hand(posts, able, hands, list(places))
                    self.assertIs(is_manning(posts, able, hands, list(places)), told, (posts, able, hands, places))


class NothingIsChangedTest(unittest.TestCase):
    houses = (
        (2, [[0], [0, 1], []], [0, 1]),
        (2, [[0], [0, 1], []], [0, 2]),
        (3, [[0, 1], [2], [2]], [0, 1, 2]),
        (0, [[]], []),
    )

    def test_what_is_handed_in_stays(self):
        for posts, able, hands in self.houses:
            handed = copy.deepcopy((able, hands))
            manning_of(posts, *handed)
            self.assertEqual(handed, (able, hands))
            for places in ([], [0, 1], [1, 0], [0, 0, 7], [-1, SIXTY]):
                handed = copy.deepcopy((able, hands, places))
                is_manning(posts, *handed)
                self.assertEqual(handed, (able, hands, places))

    def test_the_list_is_the_askers_own(self):
        for posts, able, hands in self.houses:
            handed = copy.deepcopy((able, hands))
            first = manning_of(posts, *handed)
            kept = copy.deepcopy(first)
            first[1].append(99)
            first[1].reverse()
            self.assertEqual(handed, (able, hands))
            self.assertEqual(manning_of(posts, *handed), kept)

    def test_a_list_told_does_not_follow_what_was_handed_in(self):
        for posts, able, hands in self.houses:
            handed = copy.deepcopy((able, hands))
            first = manning_of(posts, *handed)
            kept = copy.deepcopy(first)
            handed[0].clear()
            handed[1].clear()
            self.assertEqual(first, kept)
            self.assertEqual(manning_of(posts, able, hands), kept)


if __name__ == "__main__":
    unittest.main()
