"""Seasons: closings by ranks, illnesses, why, and whose the told lists are."""

import copy
import random
import unittest

from furlough.errors import Away, LeaveError, NoAsk, NoDay, NoHand
from furlough.seasons import Season
from helpers import FORTY, LeaveCase, SeasonCase, SeasonWalk, chance_deed, chance_house, lists_in, outcome, season_of
from helpers import season_told, spoil, teller


def ask_all(season, hands, day):
    for hand in hands:
        season.ask(hand, day)


def hads(season, hands):
    return [season.had(hand) for hand in range(hands)]


def chance_seasons(chance, count, most_posts):
    """Houses, of which many can spare some hands, each with the seed of what is done in its season."""
    for turn in range(count):
        posts = chance.randrange(0, most_posts + 1)
        hands = posts + chance.randrange(1, 4)
        able, some = chance_house(chance, posts, hands, chance.choice([0.4, 0.6, 0.8]))
        yield posts, able, turn


class CloseTest(SeasonCase):
    def test_fewest_leaves_had_first(self):
        season = Season(1, [[0], [0], [0]])
        for day, granted, had in (
            (0, [0, 1], [1, 1, 0]), (1, [2, 0], [2, 1, 1]), (2, [1, 2], [2, 2, 2]), (3, [0, 1], [3, 3, 2]),
        ):
            ask_all(season, (2, 0, 1), day)
            self.assertEqual(season.next_day(), day)
            self.assertEqual(season.close(), granted)
            self.assertEqual(season.next_day(), day + 1)
            self.assertEqual(hads(season, 3), had)
        self.assertEqual(season.granted(), [[0, 1], [2, 0], [1, 2], [0, 1]])

    def test_of_these_the_least_number_first(self):
        season = Season(0, [[], [], [], []])
        season.ask(1, 0)
        self.assertEqual(season.close(), [1])
        ask_all(season, (3, 1, 2, 0), 1)
        self.assertEqual(season.close(), [0, 2, 3, 1])
        ask_all(season, (2, 3), 2)
        self.assertEqual(season.close(), [2, 3])
        ask_all(season, (3, 2, 1, 0), 3)
        self.assertEqual(season.close(), [0, 1, 2, 3])
        self.assertEqual(season.granted(), [[1], [0, 2, 3, 1], [2, 3], [0, 1, 2, 3]])

    def test_an_ask_that_was_not_granted_is_no_leave_had(self):
        season = Season(1, [[0], [0]])
        for day in range(6):
            ask_all(season, (0, 1), day)
            self.assertEqual(season.close(), [day % 2])
        self.assertEqual(hads(season, 2), [3, 3])

    def test_no_asks(self):
        season = season_of()
        self.assertEqual([season.close() for day in range(3)], [[], [], []])
        self.assertEqual((season.next_day(), season.granted()), (3, [[], [], []]))

    def test_asks_of_other_days_wait(self):
        season = season_of(asks=[(0, 1), (3, 2)])
        self.assertEqual(season.close(), [])
        self.assertEqual(season.asks_of(1), [0])
        self.assertEqual(season.close(), [0])
        self.assertEqual(season.asks_of(2), [3])
        self.assert_refused(NoDay, season.asks_of, 1)
        self.assertEqual(season.close(), [3])

    def test_those_withdrawn_and_off_are_not_granted(self):
        season = season_of(asks=[(0, 0), (1, 0), (3, 0)])
        season.withdraw(1, 0)
        season.off(0, 0)
        self.assertEqual(season.close(), [3])
        self.assertEqual(hads(season, 5), [0, 0, 0, 1, 0])

    def test_a_great_house_over_many_days(self):
        able = [list(range(11)) for hand in range(11)] + [[]]
        season = Season(11, able)
        ask_all(season, range(12), 0)
        self.assertEqual(season.close(), [11])
        season = Season(10, [row[:10] for row in able])
        for day in range(1000):
            ask_all(season, range(12), day)
            self.assertEqual(len(season.close()), 2)
        self.assertEqual(season.next_day(), 1000)
        self.assertEqual(hads(season, 12), [91] * 10 + [90] + [1000])


class IllTest(SeasonCase):
    def closed(self):
        # 0, 1 and 3 go; 2 and 4 stay.
        season = season_of(asks=[(hand, 0) for hand in range(5)])
        self.assertEqual(season.close(), [0, 1, 3])
        return season

    def assert_ill(self, season, hand, granted, called):
        told = season.ill(hand)
        self.assertIs(type(told), tuple)
        self.assertEqual(told, (granted, called))
        self.assert_whole_numbers(told[0])
        self.assertEqual(season.granted()[-1], granted)

    def test_one_is_called_back(self):
        season = self.closed()
        self.assert_ill(season, 4, [0, 3], 1)
        self.assertEqual(hads(season, 5), [1, 0, 0, 1, 0])
        self.assertEqual((season.granted(), season.next_day()), ([[0, 3]], 1))

    def test_none_is_called_back(self):
        season = self.closed()
        self.assert_ill(season, 3, [0, 1], None)
        self.assertEqual(hads(season, 5), [1, 1, 0, 0, 0])

    def test_hand_number_0_is_called_back(self):
        season = season_of(1, [[0], [0]], [(0, 0)])
        season.close()
        self.assert_ill(season, 1, [], 0)
        self.assertEqual(hads(season, 2), [0, 0])

    def test_an_ill_hand_that_did_not_ask(self):
        season = season_of(asks=[(0, 0), (1, 0)])
        season.close()
        self.assert_ill(season, 3, [0, 1], None)
        self.assert_ill(season, 4, [0], 1)

    def test_several_on_one_day(self):
        season = self.closed()
        self.assert_ill(season, 4, [0, 3], 1)
        self.assert_ill(season, 3, [0], None)
        self.assert_ill(season, 0, [], None)
        self.assertEqual(hads(season, 5), [0, 0, 0, 0, 0])
        self.assertEqual(season.granted(), [[]])
        for hand in (0, 3, 4):
            self.assert_refused_and_kept(Away, season, "ill", hand)

    def test_each_of_several_calls_one_back(self):
        season = season_of(1, [[0]] * 4, [(0, 0), (1, 0), (2, 0)])
        self.assertEqual(season.close(), [0, 1, 2])
        self.assert_ill(season, 3, [0, 1], 2)
        self.assert_ill(season, 2, [0], 1)
        self.assert_ill(season, 1, [], 0)
        self.assertEqual(hads(season, 4), [0, 0, 0, 0])

    def test_an_ill_hand_that_was_on_leave_has_had_none(self):
        season = season_of(1, [[0]] * 3, [(hand, day) for hand in range(3) for day in (0, 1)])
        self.assertEqual(season.close(), [0, 1])
        self.assert_ill(season, 0, [1], None)
        self.assertEqual(hads(season, 3), [0, 1, 0])
        self.assertEqual(season.close(), [0, 2])

    def test_who_was_called_back_has_had_none(self):
        season = season_of(1, [[0]] * 3, [(hand, day) for hand in range(3) for day in (0, 1)])
        self.assertEqual(season.close(), [0, 1])
        self.assert_ill(season, 2, [0], 1)
        self.assertEqual(hads(season, 3), [1, 0, 0])
        self.assertEqual(season.close(), [1, 2])

    def test_the_asks_keep_the_order_of_the_closing(self):
        # By the leaves had since, hand 2 would come ahead of hands 0 and 1.
        season = season_of(2, [[0, 1]] * 4, [(hand, 0) for hand in range(4)])
        self.assertEqual(season.close(), [0, 1])
        self.assert_ill(season, 3, [0], 1)

    def test_the_order_of_ranks_stays(self):
        season = season_of(0, [[], [], []], [(0, 0), (0, 1), (1, 1), (2, 1)])
        season.close()
        self.assertEqual(season.close(), [1, 2, 0])
        self.assert_ill(season, 2, [1, 0], None)
        self.assertEqual(season.granted(), [[0], [1, 0]])

    def test_what_the_ill_asked_for_later_days_stays(self):
        season = season_of(asks=[(3, 0), (3, 1), (3, 7)])
        season.close()
        self.assert_ill(season, 3, [], None)
        self.assertEqual((season.asks_of(1), season.asks_of(7)), ([3], [3]))
        season.ask(3, 2)
        self.assertEqual([season.close(), season.close()], [[3], [3]])
        self.assert_ill(season, 3, [], None)
        self.assertEqual(hads(season, 5), [0, 0, 0, 1, 0])

    def test_the_ill_are_there_again_on_the_next_day(self):
        season = season_of(1, [[0], [0]], [(0, 0), (0, 1)])
        self.assertEqual(season.close(), [0])
        self.assert_ill(season, 1, [], 0)
        self.assertEqual(season.close(), [0])
        self.assertEqual(season.granted(), [[], [0]])

    def test_later_deeds_do_not_change_the_day_closed_last(self):
        season = season_of(asks=[(0, 0), (1, 0)])
        season.close()
        ask_all(season, (2, 3), 1)
        season.off(0, 1)
        season.off(2, 1)
        self.assert_ill(season, 4, [0], 1)
        self.assertEqual(season.granted(), [[0]])

    def test_only_the_day_closed_last_changes(self):
        season = season_of(asks=[(hand, day) for hand in range(5) for day in range(3)])
        season.close()
        season.close()
        before = season.granted()
        season.close()
        for hand in (3, 4):
            season.ill(hand)
            self.assertEqual(season.granted()[:2], before)
        self.assertEqual(len(season.granted()), 3)


class WhyTest(SeasonCase):
    def closed(self):
        season = season_of(asks=[(hand, 0) for hand in range(5)])
        self.assertEqual(season.close(), [0, 1, 3])
        return season

    def test_granted_and_not(self):
        season = self.closed()
        self.assertEqual([season.why(hand) for hand in (0, 1, 3)], [None, None, None])
        self.assertEqual(season.why(2), ([0, 1], [2, 4]))
        self.assertEqual(season.why(4), ([0], [4]))
        self.assertIs(type(season.why(4)), tuple)

    def test_behind_an_illness_the_day_as_it_stands(self):
        season = self.closed()
        season.ill(4)
        self.assertEqual([season.why(hand) for hand in (0, 3)], [None, None])
        self.assertEqual(season.why(1), ([0], [1]))
        self.assertEqual(season.why(2), ([0, 1], [1, 2]))
        self.assert_refused_and_kept(NoAsk, season, "why", 4)
        season.ill(0)
        self.assertEqual(season.why(1), ([0], [1]))
        self.assertEqual(season.why(2), ([0, 1], [1, 2]))
        self.assertIsNone(season.why(3))
        for hand in (0, 4):
            self.assert_refused_and_kept(NoAsk, season, "why", hand)

    def test_who_did_not_ask(self):
        season = season_of(asks=[(0, 0), (1, 0), (2, 0), (3, 1)])
        season.withdraw(1, 0)
        season.off(2, 0)
        season.close()
        self.assertIsNone(season.why(0))
        for hand in (1, 2, 3, 4):
            self.assert_refused_and_kept(NoAsk, season, "why", hand)
        season.ill(4)
        self.assert_refused_and_kept(NoAsk, season, "why", 4)

    def test_of_the_day_closed_last_alone(self):
        season = self.closed()
        season.ask(3, 1)
        self.assertEqual(season.why(2), ([0, 1], [2, 4]))
        season.close()
        self.assertIsNone(season.why(3))
        for hand in (0, 1, 2, 4):
            self.assert_refused_and_kept(NoAsk, season, "why", hand)

    def test_the_papers_go_by_the_ranks(self):
        season = season_of(1, [[0], [0]], [(0, 0), (0, 1), (1, 1)])
        season.close()
        self.assertEqual(season.close(), [1])
        self.assertIsNone(season.why(1))
        self.assertEqual(season.why(0), ([0], [0]))

    def test_no_hand_and_no_day(self):
        season = season_of(asks=[(0, 0)])
        for hand in (-1, 5, FORTY, -FORTY):
            self.assert_refused_and_kept(NoHand, season, "why", hand)
        for hand in (0, 1):
            self.assert_refused_and_kept(NoDay, season, "why", hand)
        season.close()
        for hand in (-1, 5, FORTY, -FORTY):
            self.assert_refused_and_kept(NoHand, season, "why", hand)
        self.assertIsNone(season.why(0))


class WalkTest(LeaveCase):
    def hold_against_walk(self, posts, able, seed, turns, met):
        chance = random.Random(seed)
        season = Season(posts, copy.deepcopy(able))
        walk = SeasonWalk(posts, able)
        for turn in range(turns):
            deed, *handed = chance_deed(chance, len(able), season.next_day())
            told = outcome(getattr(season, deed), *handed)
            self.assertEqual(told, outcome(walk.tell, deed, *handed), (posts, able, seed, turn, deed, handed))
            self.assertEqual(season_told(teller(season), len(able)), season_told(walk.tell, len(able)))
            sort = told if told.isalpha() else "told"
            met[(deed, sort)] = met.get((deed, sort), 0) + 1

    def test_many_seasons(self):
        met = {}
        for posts, able, seed in chance_seasons(random.Random(17), 120, 3):
            self.hold_against_walk(posts, able, seed, 60, met)
        for deed, sorts in (
            ("ask", "None NoHand NoDay Twice Away"), ("withdraw", "None NoHand NoDay NoAsk"),
            ("off", "None NoHand NoDay Twice"), ("back", "None NoHand NoDay Away"), ("close", "told Short"),
            ("ill", "told NoHand NoDay Away Short"), ("why", "told None NoHand NoDay NoAsk"), ("had", "told NoHand"),
        ):
            for sort in sorts.split():
                self.assertGreater(met.get((deed, sort), 0), 5, (deed, sort))

    def test_long_seasons(self):
        for posts, able, seed in chance_seasons(random.Random(18), 5, 4):
            self.hold_against_walk(posts, able, seed, 400, {})


class OwnTest(LeaveCase):
    def told_lists(self, season, hands):
        """All lists that can be told now."""
        told = [season.granted(), season.asks_of(season.next_day()), season.asks_of(season.next_day() + 1)]
        for hand in range(hands):
            try:
                told.append(season.why(hand))
            except (NoAsk, NoDay):
                pass
        return told

    def hold_told_lists(self, posts, able, seed, spoiled):
        chance = random.Random(seed)
        season = Season(posts, copy.deepcopy(able))
        walk = SeasonWalk(posts, able)
        told = []
        kept = []
        for turn in range(60):
            deed, *handed = chance_deed(chance, len(able), season.next_day())
            outcome(walk.tell, deed, *handed)
            try:
                answer = getattr(season, deed)(*handed)
            except LeaveError:
                continue
            now = [answer] + self.told_lists(season, len(able))
            if spoiled:
                spoil(now)
            self.assertEqual(season_told(teller(season), len(able)), season_told(walk.tell, len(able)))
            told.append(now)
            kept.append(copy.deepcopy(now))
        self.assertEqual(told, kept)
        self.assertEqual(len({id(some) for some in lists_in(told)}), len(lists_in(told)))

    def test_spoiled_by_the_asker_they_change_nothing(self):
        for posts, able, seed in chance_seasons(random.Random(2), 40, 3):
            self.hold_told_lists(posts, able, seed, True)

    def test_they_stay_when_the_season_goes_on(self):
        for posts, able, seed in chance_seasons(random.Random(3), 40, 3):
            self.hold_told_lists(posts, able, seed, False)

    def test_close_spoiled_ahead_of_ill(self):
        season = season_of(asks=[(hand, 0) for hand in range(5)])
        closed = season.close()
        spoil(closed)
        self.assertEqual(season.granted(), [[0, 1, 3]])
        told = season.ill(4)
        self.assertEqual(told, ([0, 3], 1))
        spoil(told)
        self.assertEqual(season.granted(), [[0, 3]])
        self.assertEqual(season.ill(3), ([0], None))
        self.assertEqual((closed, told), ([99, 3, 1, 0], ([99, 3, 0], 1)))


if __name__ == "__main__":
    unittest.main()
