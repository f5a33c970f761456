"""Seasons: hands ask for days to come, and day by day the asks are granted and closed.

Within this module leaves has, for each closed day, its granting as it stands now; there and
ranked are those there and the asks by rank of the day closed last, less the ill.
"""

from furlough.changes import fallen_ill
from furlough.errors import Away, NoAsk, NoDay, NoHand, NoHouse, Twice
from furlough.houses import is_house
from furlough.leaves import grant, without
from furlough.papers import paper_of

LAST_DAY = 1000000


class Season:
    def __init__(self, posts, able):
        if not is_house(posts, able):
            raise NoHouse("this is no house")
        self.posts = posts
        self.able = [list(row) for row in able]
        self.asked = {}
        self.absent = {}
        self.leaves = []
        self.there = []
        self.ranked = []

    def ask(self, hand, day):
        self.refuse_hand(hand)
        self.refuse_day(day)
        if (hand, day) in self.asked:
            raise Twice("this hand asks already on that day")
        if (hand, day) in self.absent:
            raise Away("this hand is off that day")
        self.asked[(hand, day)] = True

    def withdraw(self, hand, day):
        self.refuse_hand(hand)
        self.refuse_day(day)
        if (hand, day) not in self.asked:
            raise NoAsk("this hand does not ask on that day")
        self.asked.pop((hand, day))

    def off(self, hand, day):
        self.refuse_hand(hand)
        self.refuse_day(day)
        if (hand, day) in self.absent:
            raise Twice("this hand is off already that day")
        self.absent[(hand, day)] = True
        self.asked.pop((hand, day), None)

    def back(self, hand, day):
        self.refuse_hand(hand)
        self.refuse_day(day)
        if (hand, day) not in self.absent:
            raise Away("this hand is not off that day")
        self.absent.pop((hand, day))

    def close(self):
        day = self.next_day()
        there = [hand for hand in self.all_hands() if (hand, day) not in self.absent]
        # The asks come rising and sorting keeps the order of equals, so of those with as many
        # leaves had the least number stays first.
        ranked = sorted(self.asks_of(day), key=self.had)
        told = grant(self.posts, self.able, there, ranked)
        self.there = there
        self.ranked = ranked
        self.leaves.append(list(told))
        return told

    def ill(self, hand):
        self.refuse_hand(hand)
        self.refuse_none_closed()
        if hand not in self.there:
            raise Away("this hand was not there on the day closed last")
        told = fallen_ill(self.posts, self.able, self.there, self.ranked, hand)
        self.there = without(self.there, [hand])
        self.ranked = without(self.ranked, [hand])
        self.leaves[-1] = list(told[0])
        return told

    def next_day(self):
        return len(self.leaves)

    def had(self, hand):
        self.refuse_hand(hand)
        return len([gone for gone in self.leaves if hand in gone])

    def asks_of(self, day):
        self.refuse_day(day)
        return [hand for hand in self.all_hands() if (hand, day) in self.asked]

    def granted(self):
        return [list(gone) for gone in self.leaves]

    def why(self, hand):
        self.refuse_hand(hand)
        self.refuse_none_closed()
        return paper_of(self.posts, self.able, self.there, self.ranked, hand)

    def all_hands(self):
        return list(range(len(self.able)))

    def refuse_hand(self, hand):
        if hand < 0 or hand >= len(self.able):
            raise NoHand("no hand has this number")

    def refuse_day(self, day):
        if day < self.next_day() or day > LAST_DAY:
            raise NoDay("this day is closed already, or none of the season")

    def refuse_none_closed(self):
        if not self.leaves:
            raise NoDay("no day was closed")
