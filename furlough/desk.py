"""The desk: it is told rows of words, one at a time, and answers each by a text."""

from furlough.errors import Full, NoHand, NoPost, NoRow, Twice
from furlough.houses import MOST_HANDS, MOST_POSTS
from furlough.seasons import Season
from furlough.texts import read_name, read_number, read_words

ROWS_OF_HAND_AND_DAY = ("ask", "withdraw", "off", "back")
ROWS_OF_HAND = ("ill", "why", "had")


class Desk:
    def __init__(self):
        self.post_names = []
        self.hand_names = []
        self.able = []
        self.season = None

    def say(self, row):
        words = read_words(row)
        if self.season is None:
            self.build(words)
            return "ok"
        return self.answer(words)

    def build(self, words):
        if words[0] == "post" and len(words) == 2:
            self.build_post(read_name(words[1]))
        elif words[0] == "hand" and len(words) >= 2:
            self.build_hand(read_name(words[1]), words[2:])
        elif words == ["open"]:
            self.season = Season(len(self.post_names), self.able)
        else:
            raise NoRow("this is no row ahead of open")

    def build_post(self, name):
        self.refuse_told(name)
        if len(self.post_names) >= MOST_POSTS:
            raise Full("the house has no room for another post")
        self.post_names.append(name)

    def build_hand(self, name, words):
        self.refuse_told(name)
        if len(self.hand_names) >= MOST_HANDS:
            raise Full("the house has no room for another hand")
        self.able.append(self.posts_called(words))
        self.hand_names.append(name)

    def refuse_told(self, name):
        if name in self.post_names or name in self.hand_names:
            raise Twice("this name is told already")

    def posts_called(self, words):
        if len(set(words)) != len(words) or not all([word in self.post_names for word in words]):
            raise NoPost("one of these is no post told, or is told twice")
        return sorted([self.post_names.index(word) for word in words])

    def answer(self, words):
        if words[0] in ROWS_OF_HAND_AND_DAY and len(words) == 3:
            # A word that ought to be a number is refused ahead of one that is no hand.
            day = read_number(words[2])
            self.change_day(words[0], self.hand_called(words[1]), day)
            return "ok"
        if words[0] in ROWS_OF_HAND and len(words) == 2:
            return self.answer_of_hand(words[0], self.hand_called(words[1]))
        if words[0] == "asks" and len(words) == 2:
            return self.names_of(self.season.asks_of(read_number(words[1])))
        if words == ["close"]:
            return self.names_of(self.season.close())
        if words == ["day"]:
            return str(self.season.next_day())
        raise NoRow("this is no row behind open")

    def hand_called(self, word):
        if word not in self.hand_names:
            raise NoHand("no hand is called so")
        return self.hand_names.index(word)

    def change_day(self, deed, hand, day):
        if deed == "ask":
            self.season.ask(hand, day)
        elif deed == "withdraw":
            self.season.withdraw(hand, day)
        elif deed == "off":
            self.season.off(hand, day)
        else:
            self.season.back(hand, day)

    def answer_of_hand(self, asked, hand):
        if asked == "ill":
            return self.answer_ill(self.season.ill(hand))
        if asked == "why":
            return self.answer_why(self.season.why(hand))
        return str(self.season.had(hand))

    def answer_ill(self, told):
        granted = self.names_of(told[0])
        called = self.names_of([] if told[1] is None else [told[1]])
        return f"{granted} / {called}"

    def answer_why(self, paper):
        if paper is None:
            return "granted"
        lacking = " ".join([self.post_names[post] for post in paper[0]])
        left = self.names_of(paper[1])
        return f"{lacking} : {left}"

    def names_of(self, hands):
        names = [self.hand_names[hand] for hand in hands]
        return " ".join(names) if names else "none"
