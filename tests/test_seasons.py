"""Seasons: their deeds, and what is refused."""

import copy
import random
import unittest

from furlough.errors import Away, NoAsk, NoDay, NoHand, NoHouse, Short, Twice
from furlough.seasons import Season
from helpers import FIVE_HANDS as ABLE
from helpers import FORTY, LAST_DAY, SIXTY, SeasonCase, chance_deed, outcome, season_of, season_told, spoil, teller

NO_HANDS = (-1, -2, -5, 5, 6, FORTY, -FORTY)


class MadeTest(SeasonCase):
    def test_no_house(self):
        for posts, able in (
            (-1, [[]]), (13, [[]]), (FORTY, [[]]), (-FORTY, [[]]), (SIXTY, [[]]), (0, []), (3, []), (0, [[]] * 13),
            (1, [[0]] * 40), (2, [[2]]), (2, [[-1]]), (2, [[1, 0]]), (2, [[0, 0]]), (2, [[0, 1], [0, 1, 2]]),
            (2, [[0], [SIXTY]]), (2, [[-SIXTY]]), (0, [[0]]),
        ):
            self.assert_refused(NoHouse, Season, posts, able)

    def test_houses(self):
        for posts, able in ((0, [[]]), (12, [list(range(12))] * 12), (2, [[0, 1]]), (3, [[], [1]])):
            season = self.told(Season, posts, able)
            self.assertEqual(season.next_day(), 0)
            self.assertEqual(season.granted(), [])
            self.assertEqual(season.asks_of(0), [])
            self.assertEqual([season.had(hand) for hand in range(len(able))], [0] * len(able))

    def test_a_house_that_cannot_be_manned_is_one(self):
        season = Season(2, [[0]])
        season.ask(0, 0)
        self.assert_refused(Short, season.close)

    def test_the_lists_it_was_made_of_change_nothing_later(self):
        for deed in ("close", "ill", "why"):
            able = copy.deepcopy(ABLE)
            season = Season(2, able)
            other = season_of()
            for made in (season, other):
                for hand in (4, 3, 2, 1, 0):
                    made.ask(hand, 0)
            if deed != "close":
                season.close()
                other.close()
            spoil(able)
            able.clear()
            handed = () if deed == "close" else (2,)
            self.assertEqual(getattr(season, deed)(*handed), getattr(other, deed)(*handed))
            self.assertEqual(season_told(teller(season), 5), season_told(teller(other), 5))

    def test_a_row_handed_in_for_two_hands_is_no_one_row(self):
        row = [0]
        season = Season(1, [row, row])
        row.clear()
        season.ask(0, 0)
        self.assertEqual(season.close(), [0])

    def test_the_lists_handed_in_stay_as_they_are(self):
        able = copy.deepcopy(ABLE)
        season = Season(2, able)
        chance = random.Random(15)
        for turn in range(200):
            deed, *handed = chance_deed(chance, len(able), season.next_day())
            outcome(getattr(season, deed), *handed)
            self.assertEqual(able, ABLE)
        self.assertGreater(season.next_day(), 10)

    def test_two_seasons_do_not_touch_one_another(self):
        able = copy.deepcopy(ABLE)
        first = Season(2, able)
        second = Season(2, able)
        first.ask(0, 0)
        first.off(1, 0)
        self.assertEqual(second.asks_of(0), [])
        second.ask(1, 0)
        self.assertEqual(first.asks_of(0), [0])
        self.assertEqual(second.close(), [1])
        self.assertEqual((first.next_day(), first.granted(), first.had(1)), (0, [], 0))
        self.assertEqual(first.close(), [0])
        self.assertEqual(second.ill(0), ([1], None))
        self.assertEqual((first.granted(), first.had(0)), ([[0]], 1))


class DeedsTest(SeasonCase):
    def days_to_come(self):
        """Seasons with no day closed and with some, and near and far days of each."""
        for closed in (0, 1, 3):
            for near in (0, 1, 2, 50):
                yield closed, closed + near
            for far in (LAST_DAY - 1, LAST_DAY):
                yield closed, far

    def season_after(self, closed):
        season = season_of()
        for day in range(closed):
            season.close()
        return season

    def test_ask_and_withdraw(self):
        for closed, day in self.days_to_come():
            season = self.season_after(closed)
            self.assert_done(season, "ask", 3, day)
            self.assert_done(season, "ask", 0, day)
            self.assertEqual(season.asks_of(day), [0, 3])
            self.assert_refused_and_kept(Twice, season, "ask", 3, day)
            self.assert_done(season, "withdraw", 3, day)
            self.assertEqual(season.asks_of(day), [0])
            self.assert_refused_and_kept(NoAsk, season, "withdraw", 3, day)
            self.assert_done(season, "ask", 3, day)
            self.assertEqual(season.asks_of(day), [0, 3])

    def test_off_and_back(self):
        for closed, day in self.days_to_come():
            season = self.season_after(closed)
            self.assert_done(season, "off", 3, day)
            self.assert_refused_and_kept(Twice, season, "off", 3, day)
            self.assert_refused_and_kept(Away, season, "ask", 3, day)
            self.assert_done(season, "back", 3, day)
            self.assert_refused_and_kept(Away, season, "back", 3, day)
            self.assert_done(season, "ask", 3, day)
            self.assertEqual(season.asks_of(day), [3])

    def test_off_takes_the_ask_and_back_brings_none(self):
        for closed, day in self.days_to_come():
            season = self.season_after(closed)
            season.ask(2, day)
            season.ask(3, day)
            self.assert_done(season, "off", 2, day)
            self.assertEqual(season.asks_of(day), [3])
            self.assert_refused_and_kept(NoAsk, season, "withdraw", 2, day)
            self.assert_done(season, "back", 2, day)
            self.assertEqual(season.asks_of(day), [3])
            self.assert_refused_and_kept(NoAsk, season, "withdraw", 2, day)
            self.assert_done(season, "ask", 2, day)
            self.assertEqual(season.asks_of(day), [2, 3])

    def test_each_day_and_each_hand_by_itself(self):
        season = season_of(asks=[(0, 5), (1, 5), (1, 6)])
        season.off(0, 6)
        season.off(1, 7)
        self.assertEqual([season.asks_of(day) for day in (4, 5, 6, 7)], [[], [0, 1], [1], []])
        season.withdraw(1, 5)
        self.assertEqual([season.asks_of(day) for day in (4, 5, 6, 7)], [[], [0], [1], []])
        season.off(1, 6)
        self.assertEqual([season.asks_of(day) for day in (4, 5, 6, 7)], [[], [0], [], []])
        season.back(0, 6)
        self.assert_refused_and_kept(Twice, season, "off", 1, 6)
        self.assert_refused_and_kept(Twice, season, "off", 1, 7)
        self.assert_refused_and_kept(Twice, season, "ask", 0, 5)

    def test_asks_are_told_rising_in_whatever_order_they_came(self):
        season = season_of(asks=[(4, 2), (0, 2), (3, 2), (1, 2)])
        self.assertEqual(season.asks_of(2), [0, 1, 3, 4])

    def test_who_is_off_is_not_there(self):
        season = season_of(1, [[0], [0], [0]], [(0, 0), (0, 1), (0, 2)])
        season.off(1, 0)
        season.off(2, 0)
        season.off(1, 1)
        season.off(2, 1)
        self.assertEqual(season.close(), [])
        season.back(2, 1)
        self.assertEqual(season.close(), [0])
        self.assertEqual(season.close(), [0])


class RefusedTest(SeasonCase):
    def seasons(self):
        """Seasons of all sorts, with the days that are to come and are none of theirs."""
        fresh = season_of(asks=[(0, 0), (1, 1), (2, LAST_DAY)])
        fresh.off(3, 0)
        yield fresh
        going = season_of(asks=[(0, 0), (1, 0), (1, 2), (3, 2)])
        going.off(4, 2)
        going.close()
        going.close()
        going.ill(3)
        yield going

    def no_days(self, season):
        first = season.next_day()
        return (first - 1, -1, -2, -LAST_DAY, -FORTY, LAST_DAY + 1, LAST_DAY + 2, FORTY)

    def test_no_hand_goes_first(self):
        for season in self.seasons():
            for hand in NO_HANDS:
                for deed in ("ask", "withdraw", "off", "back"):
                    for day in self.no_days(season) + (season.next_day(), 5, LAST_DAY):
                        self.assert_refused_and_kept(NoHand, season, deed, hand, day)
                for deed in ("ill", "had", "why"):
                    self.assert_refused_and_kept(NoHand, season, deed, hand)

    def test_no_day(self):
        for season in self.seasons():
            for day in self.no_days(season):
                for deed in ("ask", "withdraw", "off", "back"):
                    for hand in range(5):
                        self.assert_refused_and_kept(NoDay, season, deed, hand, day)
                self.assert_refused_and_kept(NoDay, season, "asks_of", day)

    def test_the_bounds_of_hands_and_days(self):
        for season in self.seasons():
            first = season.next_day()
            for hand in (0, 4):
                for day in (first + 3, LAST_DAY):
                    self.assert_done(season, "ask", hand, day)
                    self.assert_done(season, "withdraw", hand, day)
                    self.assert_done(season, "off", hand, day)
                    self.assert_done(season, "back", hand, day)
                    self.assertEqual(season.asks_of(day), [2] if (first, day) == (0, LAST_DAY) else [])

    def test_no_day_goes_ahead_of_what_else_holds(self):
        season = season_of(asks=[(0, 0), (1, 0)])
        season.off(2, 0)
        season.close()
        # Hand 0 asked on day 0, hand 2 was off, hand 3 neither.
        for deed, hand in (("ask", 0), ("ask", 2), ("withdraw", 3), ("off", 2), ("back", 3)):
            self.assert_refused_and_kept(NoDay, season, deed, hand, 0)

    def test_no_day_of_ill_and_why_where_none_was_closed(self):
        season = season_of(asks=[(0, 0)])
        season.off(1, 0)
        for hand in range(5):
            self.assert_refused_and_kept(NoDay, season, "ill", hand)
            self.assert_refused_and_kept(NoDay, season, "why", hand)
        short = Season(2, [[0]])
        self.assert_refused(NoDay, short.ill, 0)
        self.assert_refused(NoDay, short.why, 0)

    def test_twice(self):
        season = season_of(asks=[(1, 3)])
        season.off(2, 3)
        self.assert_refused_and_kept(Twice, season, "ask", 1, 3)
        self.assert_refused_and_kept(Twice, season, "off", 2, 3)

    def test_no_ask_of_withdraw(self):
        season = season_of(asks=[(1, 3)])
        season.off(2, 3)
        for hand, day in ((0, 3), (2, 3), (1, 2), (1, 4), (1, LAST_DAY)):
            self.assert_refused_and_kept(NoAsk, season, "withdraw", hand, day)

    def test_away(self):
        season = season_of(asks=[(1, 3)])
        season.off(2, 3)
        self.assert_refused_and_kept(Away, season, "ask", 2, 3)
        for hand, day in ((0, 3), (1, 3), (2, 2), (2, 4), (2, LAST_DAY)):
            self.assert_refused_and_kept(Away, season, "back", hand, day)

    def test_ill_of_a_hand_that_was_off_or_is_ill_already(self):
        season = season_of(asks=[(1, 0), (2, 0)])
        season.off(3, 0)
        season.close()
        self.assert_refused_and_kept(Away, season, "ill", 3)
        season.ill(1)
        self.assert_refused_and_kept(Away, season, "ill", 1)
        season.ill(4)
        for hand in (1, 3, 4):
            self.assert_refused_and_kept(Away, season, "ill", hand)
        # Hands 0 and 2 are left for posts 0 and 1.
        for hand in (0, 2):
            self.assert_refused_and_kept(Short, season, "ill", hand)
        season.close()
        self.assertEqual([season.ill(hand) for hand in (3, 1, 4)], [([], None)] * 3)

    def test_away_of_ill_goes_ahead_of_short(self):
        season = season_of(1, [[0], [0], [], [], []])
        season.off(1, 0)
        season.close()
        self.assert_refused_and_kept(Away, season, "ill", 1)
        self.assert_refused_and_kept(Short, season, "ill", 0)

    def test_off_of_another_day_is_not_off(self):
        season = season_of(asks=[(1, 0)])
        season.off(3, 1)
        season.close()
        self.assertEqual(season.ill(3), ([1], None))
        season.close()
        self.assert_refused_and_kept(Away, season, "ill", 3)

    def test_short_of_close_and_the_season_goes_on(self):
        season = season_of(asks=[(0, 0), (3, 0), (3, 1)])
        for hand in (1, 2, 4):
            season.off(hand, 0)
        for turn in range(3):
            self.assert_refused_and_kept(Short, season, "close")
        self.assertEqual(season.next_day(), 0)
        season.back(4, 0)
        season.ask(4, 0)
        self.assertEqual(season.asks_of(0), [0, 3, 4])
        self.assertEqual(season.close(), [3])
        self.assertEqual(season.granted(), [[3]])
        self.assertEqual(season.close(), [3])

    def test_short_of_close_though_nobody_asks(self):
        season = season_of()
        for hand in range(5):
            season.off(hand, 0)
        self.assert_refused_and_kept(Short, season, "close")
        season.back(1, 0)
        self.assert_refused_and_kept(Short, season, "close")
        season.back(0, 0)
        self.assertEqual(season.close(), [])

    def test_short_of_close_leaves_the_day_closed_last_as_it_is(self):
        season = season_of(asks=[(0, 0), (1, 0), (4, 0), (2, 1)])
        self.assertEqual(season.close(), [0, 1])
        for hand in (0, 1, 2, 4):
            season.off(hand, 1)
        self.assert_refused_and_kept(Short, season, "close")
        self.assertEqual(season.why(4), ([0], [4]))
        self.assertEqual(season.ill(2), ([0], 1))

    def test_short_of_ill_and_the_season_goes_on(self):
        season = season_of(1, [[0], [0], [], [], []], [(0, 0), (2, 0), (0, 1), (1, 1)])
        self.assertEqual(season.close(), [0, 2])
        self.assertEqual(season.ill(1), ([2], 0))
        self.assert_refused_and_kept(Short, season, "ill", 0)
        self.assertEqual(season.ill(2), ([], None))
        self.assert_refused_and_kept(Short, season, "ill", 0)
        self.assertEqual(season.close(), [0])
        self.assertEqual(season.granted(), [[], [0]])


if __name__ == "__main__":
    unittest.main()
