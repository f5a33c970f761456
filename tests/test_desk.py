import copy
import random
import re
import unittest

from furlough.desk import Desk
from furlough.errors import Away, Full, NoAsk, NoDay, NoHand, NoHouse, NoPost, NoRow, Short, Twice
from helpers import LeaveCase, SeasonWalk, outcome

# Dan can stand nowhere.
HOUSE = ("post door", "post gate", "hand ann door", "hand bo gate door", "hand cy gate", "hand dan")

TWELVE = "a b c d e f g h i j k l".split()

NUMBER = "(0|[1-9][0-9]{0,6})"


def desk_of(*rows):
    desk = Desk()
    for row in rows:
        desk.say(row)
    return desk


def kept_by(desk):
    """All that a desk and its season keep: later answers hang on nothing else."""
    kept = copy.deepcopy(vars(desk))
    return {name: vars(value) if hasattr(value, "__dict__") else value for name, value in kept.items()}


class DeskWalk:
    """A desk walked through by hand, with a season walked through by hand."""

    def __init__(self):
        self.posts = []
        self.hands = []
        self.able = []
        self.season = None

    def say(self, row):
        return self.say_ahead(row) if self.season is None else self.say_behind(row)

    def say_ahead(self, row):
        made = re.fullmatch("(post) ([a-z]{1,8})|(hand) ([a-z]{1,8})((?: [^ ]+)*)|open", row)
        if made is None:
            raise NoRow(row)
        if row == "open":
            if not self.hands:
                raise NoHouse(row)
            self.season = SeasonWalk(len(self.posts), self.able)
            return "ok"
        names = self.posts if made[1] else self.hands
        name = made[2] or made[4]
        words = (made[5] or "").split(" ")[1:]
        if name in self.posts + self.hands:
            raise Twice(row)
        if len(names) == 12:
            raise Full(row)
        if [word for word in words if word not in self.posts or words.count(word) > 1]:
            raise NoPost(row)
        names.append(name)
        if made[3]:
            self.able.append([number for number, post in enumerate(self.posts) if post in words])
        return "ok"

    def say_behind(self, row):
        made = re.fullmatch(
            f"(ask|withdraw|off|back) ([^ ]+) {NUMBER}|(ill|why|had) ([^ ]+)|(asks) {NUMBER}|(close)|(day)", row)
        if made is None:
            raise NoRow(row)
        deed = made[1] or made[4]
        if deed is None:
            return self.say_of_day(made)
        if (made[2] or made[5]) not in self.hands:
            raise NoHand(row)
        hand = self.hands.index(made[2] or made[5])
        told = self.season.tell(deed, hand, int(made[3])) if made[1] else self.season.tell(deed, hand)
        if deed == "ill":
            return self.names(told[0]) + " / " + self.names(less_none(told[1]))
        if deed == "why":
            return "granted" if told is None else self.names(told[0], self.posts) + " : " + self.names(told[1])
        return str(told) if deed == "had" else "ok"

    def say_of_day(self, made):
        if made[6]:
            return self.names(self.season.tell("asks_of", int(made[7])))
        return self.names(self.season.tell("close")) if made[8] else str(self.season.tell("next_day"))

    def names(self, numbers, names=None):
        return " ".join((names or self.hands)[number] for number in numbers) or "none"


def less_none(hand):
    return [] if hand is None else [hand]


class DeskCase(LeaveCase):
    def assert_said(self, desk, *rows_and_answers):
        for row, answer in rows_and_answers:
            told = desk.say(row)
            self.assertIs(type(told), str, row)
            self.assertEqual(told, answer, row)

    def assert_refused_and_kept(self, refusal, desk, *rows):
        for row in rows:
            kept = kept_by(desk)
            self.assert_refused(refusal, desk.say, row)
            self.assertEqual(kept_by(desk), kept, row)


class AheadOfOpenTest(DeskCase):
    def test_any_mixture_of_posts_and_hands(self):
        desk = Desk()
        for row in ("hand ann", "post door", "hand bo door", "post gate", "hand cy gate door", "post hall", "hand dan"):
            self.assert_said(desk, (row, "ok"))
        self.assert_said(desk, ("open", "ok"), ("day", "0"))

    def test_posts_are_numbered_in_their_order(self):
        desk = desk_of("post z", "post m", "post a", "hand p a m z", "hand q m z a", "hand r z a m", "open", "ask p 0")
        self.assert_said(desk, ("close", "none"), ("why p", "z m a : p q r"))

    def test_posts_of_a_hand_in_any_order(self):
        for words in ("a b c", "a c b", "b a c", "b c a", "c a b", "c b a"):
            desk = desk_of("post a", "post b", "post c", *["hand " + name + " " + words for name in "xyz"], "open")
            self.assert_said(desk, ("ask y 0", "ok"), ("close", "none"), ("why y", "a b c : x y z"))

    def test_hands_are_numbered_in_their_order(self):
        desk = desk_of("hand z", "hand m", "hand a", "open", "ask a 0", "ask m 0", "ask z 0")
        self.assert_said(desk, ("asks 0", "z m a"), ("close", "z m a"))

    def test_a_post_told_behind_a_hand_is_none_of_its(self):
        desk = desk_of("hand ann", "post door", "hand bo door", "open", "ask ann 0", "ask bo 0")
        self.assert_said(desk, ("close", "ann"), ("why bo", "door : bo"))
        desk = desk_of("hand ann", "post door", "open")
        self.assert_refused_and_kept(Short, desk, "close")

    def test_no_posts(self):
        self.assert_said(desk_of("hand ann", "open"), ("ask ann 0", "ok"), ("close", "ann"))

    def test_names_that_are_words_of_rows(self):
        words = ("post", "hand", "open", "ask", "withdraw", "off", "back", "close", "ill", "why", "had", "day")
        desk = Desk()
        for word in words:
            self.assert_said(desk, ("post " + word, "ok"))
        self.assert_said(desk, ("hand asks " + " ".join(words), "ok"), ("open", "ok"), ("ask asks 1", "ok"))
        desk = Desk()
        for word in words:
            self.assert_said(desk, ("hand " + word, "ok"))
        self.assert_said(desk, ("open", "ok"))
        for word in words:
            self.assert_said(desk, ("ask " + word + " 0", "ok"), ("had " + word, "0"))
        self.assert_said(desk, ("asks 0", " ".join(words)), ("close", " ".join(words)), ("why why", "granted"))
        self.assert_said(desk, ("ill ill", " ".join(words).replace(" ill", "") + " / none"))

    def test_two_desks_do_not_touch_one_another(self):
        first = desk_of("post door", "hand ann door")
        second = desk_of("hand door", "hand ann", "open", "ask ann 0")
        self.assert_said(first, ("post gate", "ok"), ("hand bo gate door", "ok"), ("hand cy gate", "ok"))
        self.assert_said(first, ("open", "ok"), ("asks 0", "none"), ("ask bo 0", "ok"), ("close", "bo"))
        self.assert_said(second, ("day", "0"), ("close", "ann"), ("had ann", "1"))
        self.assert_said(first, ("had ann", "0"))

    def test_twelve_posts_and_hands(self):
        desk = desk_of(*["post " + name for name in TWELVE])
        self.assert_refused_and_kept(Full, desk, "post m", "post zz", "post post")
        for name in TWELVE:
            self.assert_said(desk, ("hand x" + name + " " + " ".join(TWELVE), "ok"))
        self.assert_refused_and_kept(Full, desk, "hand m", "hand zz a b", "hand hand", "post m")
        self.assert_said(desk, ("open", "ok"), ("ask xl 0", "ok"), ("close", "none"))
        self.assert_said(desk, ("why xl", " ".join(TWELVE) + " : x" + " x".join(TWELVE)))

    def test_hands_are_full_though_posts_are_not(self):
        desk = desk_of(*["hand " + name for name in TWELVE])
        self.assert_refused_and_kept(Full, desk, "hand m", "hand n")
        self.assert_said(desk, ("post m", "ok"))
        self.assert_refused_and_kept(Full, desk, "hand n m")


class RefusedAheadTest(DeskCase):
    def desk(self):
        return desk_of("post door", "post gate", "hand ann door")

    def test_no_row(self):
        self.assert_refused_and_kept(
            NoRow, self.desk(), "", " ", "  ", " post hall", "post hall ", "post  hall", "hand bo  door", "hand bo ",
            " open", "open ", "post", "hand", "post hall yard", "post hall hall", "open bo", "open open", "Post hall",
            "posts hall", "hall", "door", "ann", "ok", "none", "quit", "post\thall", "post hall\n", "open\n", "\topen",
            "hand\nbo", "POST hall", "0", "1 2 3", "~")

    def test_no_name_to_come(self):
        for name in ("Hall", "halL", "abcdefghi", "a" * 40, "h1", "1", "a-b", "a_b", "hall\t", "\nhall", "~", "none!"):
            rows = ["hand " + name + posts for posts in ("", " door", " nowhere", " door door")]
            self.assert_refused_and_kept(NoRow, self.desk(), "post " + name, *rows)

    def test_rows_that_go_behind_open(self):
        rows = ("ask ann 0", "withdraw ann 0", "off ann 0", "back ann 0", "close", "ill ann", "why ann", "had ann",
                "day", "asks 0", "ask bo 0", "had bo", "ask ann x")
        for desk in (Desk(), self.desk()):
            self.assert_refused_and_kept(NoRow, desk, *rows)

    def test_twice(self):
        desk = desk_of("post door", "hand ann door", "post gate", "hand bo")
        self.assert_refused_and_kept(
            Twice, desk, "post door", "post gate", "post ann", "post bo", "hand door", "hand gate", "hand ann",
            "hand bo", "hand ann door", "hand bo gate", "hand door door")
        self.assert_said(desk, ("post hall", "ok"), ("hand cy hall", "ok"), ("open", "ok"))

    def test_no_post(self):
        self.assert_refused_and_kept(
            NoPost, self.desk(), "hand bo hall", "hand bo door hall", "hand bo hall door", "hand bo door door",
            "hand bo door gate door", "hand bo hall hall", "hand bo ann", "hand bo bo", "hand bo Door", "hand bo 1",
            "hand bo doorsdoors", "hand bo door\n", "hand bo \tdoor", "hand bo ~ !", "hand bo post", "hand bo doo")

    def test_what_was_refused_can_be_told_rightly(self):
        desk = self.desk()
        self.assert_refused_and_kept(NoPost, desk, "hand bo hall", "hand bo gate gate")
        self.assert_said(desk, ("post hall", "ok"), ("hand bo gate hall", "ok"), ("hand cy gate hall", "ok"))
        self.assert_said(desk, ("open", "ok"), ("ask cy 0", "ok"), ("close", "none"), ("why cy", "gate hall : bo cy"))

    def test_open_without_hands(self):
        desk = Desk()
        self.assert_refused_and_kept(NoHouse, desk, "open", "open")
        self.assert_said(desk, ("post door", "ok"))
        self.assert_refused_and_kept(NoHouse, desk, "open")
        self.assert_refused_and_kept(NoRow, desk, "day", "close")
        self.assert_said(desk, ("hand ann door", "ok"), ("open", "ok"), ("day", "0"))
        desk = desk_of(*["post " + name for name in TWELVE])
        self.assert_refused_and_kept(NoHouse, desk, "open")

    def test_the_first_that_holds_is_told(self):
        desk = desk_of(*["post " + name for name in TWELVE])
        self.assert_refused_and_kept(NoRow, desk, "post A", "post a b", "post m n", "post a ")
        self.assert_refused_and_kept(Twice, desk, "post a", "post l", "hand a nowhere", "hand b b b")
        self.assert_refused_and_kept(Full, desk, "post m")
        for name in TWELVE:
            desk.say("hand x" + name)
        self.assert_refused_and_kept(NoRow, desk, "hand A nowhere", "hand abcdefghi a a", "hand xa  a")
        self.assert_refused_and_kept(Twice, desk, "hand xa", "hand xl nowhere", "hand a a a", "post xa")
        self.assert_refused_and_kept(Full, desk, "hand m", "hand m nowhere", "hand m a a", "post m")


class BehindOpenTest(DeskCase):
    def desk(self, *rows):
        return desk_of(*HOUSE, "open", *rows)

    def closed_desk(self):
        desk = self.desk("ask dan 0", "ask cy 0", "ask bo 0", "ask ann 0")
        self.assert_said(desk, ("close", "ann dan"))
        return desk

    def test_rows_of_a_hand_and_a_day(self):
        desk = self.desk()
        self.assert_said(
            desk, ("ask ann 3", "ok"), ("ask dan 3", "ok"), ("asks 3", "ann dan"), ("withdraw ann 3", "ok"),
            ("asks 3", "dan"), ("off dan 3", "ok"), ("asks 3", "none"), ("back dan 3", "ok"), ("asks 3", "none"),
            ("ask bo 1000000", "ok"), ("asks 1000000", "bo"), ("asks 0", "none"), ("ask cy 0", "ok"), ("asks 0", "cy"))

    def test_close_and_day_and_had(self):
        desk = self.desk()
        self.assert_said(desk, ("day", "0"), ("close", "none"), ("day", "1"), ("had ann", "0"))
        for day in range(1, 12):
            self.assert_said(desk, (f"ask dan {day}", "ok"), ("close", "dan"))
            self.assert_said(desk, ("day", str(day + 1)), ("had dan", str(day)))
        self.assert_said(desk, ("had ann", "0"), ("asks 12", "none"), ("day", "12"))

    def test_close_tells_by_rank(self):
        desk = self.desk("ask ann 0", "ask dan 1", "ask ann 1")
        self.assert_said(desk, ("close", "ann"), ("close", "dan ann"))

    def test_why(self):
        desk = self.closed_desk()
        self.assert_said(desk, ("why ann", "granted"), ("why dan", "granted"))
        self.assert_said(desk, ("why bo", "door : bo"), ("why cy", "door gate : bo cy"))

    def test_ill_with_one_called_back_and_with_none(self):
        desk = self.closed_desk()
        self.assert_said(desk, ("ill bo", "dan / ann"), ("had ann", "0"), ("had dan", "1"), ("why ann", "door : ann"))
        self.assert_said(desk, ("ill dan", "none / none"), ("had dan", "0"))
        desk = self.closed_desk()
        self.assert_said(desk, ("ill dan", "ann / none"), ("ill bo", "none / ann"))
        desk = self.closed_desk()
        self.assert_said(desk, ("ill ann", "dan / none"), ("day", "1"), ("ask ann 1", "ok"), ("close", "ann"))

    def test_ill_tells_in_the_order_of_the_granting(self):
        desk = desk_of("post door", "hand ann", "hand bo", "hand cy", "hand dan door", "hand ed door", "open")
        self.assert_said(desk, ("ask ann 0", "ok"), ("ask bo 0", "ok"), ("close", "ann bo"))
        self.assert_said(desk, ("ask ann 1", "ok"), ("ask cy 1", "ok"), ("ask bo 1", "ok"), ("ask dan 1", "ok"))
        self.assert_said(desk, ("close", "cy dan ann bo"), ("ill ed", "cy ann bo / dan"), ("ill ann", "cy bo / none"))

    def test_names_none_and_granted(self):
        rows = ("post door", "hand none door", "hand granted door", "open")
        desk = desk_of(*rows)
        self.assert_said(desk, ("asks 0", "none"), ("ask none 0", "ok"), ("asks 0", "none"), ("close", "none"))
        self.assert_said(desk, ("had none", "1"), ("why none", "granted"), ("ask granted 1", "ok"))
        self.assert_said(desk, ("ask none 1", "ok"), ("asks 1", "none granted"), ("close", "granted"))
        self.assert_said(desk, ("why none", "door : none"), ("why granted", "granted"), ("had granted", "1"))
        self.assert_said(desk, ("ill none", "none / granted"), ("had granted", "0"))
        desk = desk_of(*rows, "ask none 0", "close")
        self.assert_said(desk, ("ill granted", "none / none"), ("had none", "0"), ("why none", "door : none"))

    def test_posts_called_none_and_granted(self):
        desk = desk_of("post granted", "post none", "hand ann none granted", "hand bo granted none", "open", "ask bo 0")
        self.assert_said(desk, ("close", "none"), ("why bo", "granted none : ann bo"))
        desk = desk_of("post none", "hand ann none", "open", "ask ann 0")
        self.assert_said(desk, ("close", "none"), ("why ann", "none : ann"))

    def test_no_row(self):
        self.assert_refused_and_kept(
            NoRow, self.closed_desk(), "", " ", "close ", " close", "ask  ann 1", "ask ann  1", "ask ann 1 ", "ask",
            "ask ann", "ask ann 1 1", "ask 1", "withdraw ann", "off ann", "back ann", "off", "back ann 1 2",
            "close 0", "close ann", "ill", "ill ann bo", "ill ann 0", "why", "why ann 0", "had", "had ann bo",
            "day 0", "day ann", "asks", "asks ann", "asks 0 0", "asks ann 0", "ok", "none", "granted", "Ask ann 1",
            "ask\tann 1", "close\n", "day\t", "ann", "next", "granted ann", "next_day", "asks_of 1", "say close",
            "CLOSE", "ask ann one")

    def test_no_number(self):
        for word in ("01", "00", "-1", "+1", "10000000", "1" * 40, "x", "1.0", "1_0", "1\n", "\t1", "ann", "1e3", "/"):
            self.assert_refused_and_kept(
                NoRow, self.closed_desk(), *[deed + " ann " + word for deed in ("ask", "withdraw", "off", "back")],
                "ask nobody " + word, "asks " + word)

    def test_rows_that_go_ahead_of_open(self):
        self.assert_refused_and_kept(
            NoRow, self.closed_desk(), "open", "post hall", "hand ed", "hand ed door", "post door", "hand ann",
            "hand ed hall", "post", "hand", "post Hall")
        self.assert_refused_and_kept(NoRow, self.desk(), "open", "post hall", "hand ed")

    def test_no_hand(self):
        for desk in (self.desk(), self.closed_desk()):
            for word in ("ed", "door", "Ann", "ann!", "0", "1", "-1", "abcdefghi", "an", "ann\n", "\tann", "~", "none"):
                for deed in ("ask", "withdraw", "off", "back"):
                    for day in ("0", "1", "1000001", "9999999"):
                        self.assert_refused_and_kept(NoHand, desk, f"{deed} {word} {day}")
                self.assert_refused_and_kept(NoHand, desk, "ill " + word, "why " + word, "had " + word)

    def test_as_the_season_refuses(self):
        desk = self.desk("ask ann 0", "off dan 0")
        self.assert_refused_and_kept(NoDay, desk, "ill ann", "why ann", "ill dan", "ask bo 1000001", "asks 9999999")
        self.assert_refused_and_kept(Twice, desk, "ask ann 0", "off dan 0")
        self.assert_refused_and_kept(NoAsk, desk, "withdraw bo 0", "withdraw ann 1", "withdraw dan 0")
        self.assert_refused_and_kept(Away, desk, "ask dan 0", "back ann 0", "back dan 1")
        self.assert_said(desk, ("off bo 0", "ok"), ("off cy 0", "ok"))
        self.assert_refused_and_kept(Short, desk, "close", "close")
        self.assert_said(desk, ("back bo 0", "ok"), ("back cy 0", "ok"), ("close", "ann"))
        self.assert_refused_and_kept(NoDay, desk, "ask bo 0", "withdraw ann 0", "off bo 0", "back dan 0", "asks 0")
        self.assert_refused_and_kept(Away, desk, "ill dan")
        self.assert_refused_and_kept(NoAsk, desk, "why dan", "why bo")
        self.assert_said(desk, ("ill bo", "none / ann"))
        self.assert_refused_and_kept(Away, desk, "ill bo", "ill dan")
        self.assert_refused_and_kept(Short, desk, "ill ann", "ill cy")
        self.assert_refused_and_kept(NoAsk, desk, "why bo")
        self.assert_said(desk, ("why ann", "door : ann"), ("day", "1"))


class WalkTest(DeskCase):
    NAMES = "door gate hall ann bo cy dan none granted ask open post".split()

    def chance_row_ahead(self, chance, told):
        name = chance.choice(self.NAMES)
        if chance.random() < 0.3:
            return "post " + name
        posts = [post for post in told if chance.random() < 0.8]
        if chance.random() < 0.1:
            posts.append(chance.choice(self.NAMES))
        chance.shuffle(posts)
        return " ".join(["hand", name] + posts)

    def chance_row_behind(self, chance, hands, day):
        hand = chance.choice(hands) if chance.random() < 0.95 else chance.choice(self.NAMES)
        day = day + chance.choice([0, 0, 0, 1, 2]) if chance.random() < 0.95 else chance.choice([0, 1000000, 1000001])
        deed = chance.choice(["ask"] * 8 + ["withdraw", "off", "back", "close", "close", "close", "ill", "ill", "ill"]
                             + ["why", "why", "had", "day", "asks"])
        words = {"close": [], "day": [], "asks": [str(day)]}.get(deed, [hand])
        return " ".join([deed] + words + ([str(day)] if deed in ("ask", "withdraw", "off", "back") else []))

    def worsened(self, chance, row):
        """The row, now and then with something amiss."""
        if chance.random() < 0.9:
            return row
        words = row.split(" ")
        place = chance.randrange(len(words) + 1)
        word = chance.choice(["", "\t", "Door", "door", "ann", "1", "01", "open", "post", "close", "~"])
        return " ".join(chance.choice([words[:place] + [word] + words[place:], words[:place] + words[place + 1:]]))

    def hold_against_walk(self, chance, met):
        desk = Desk()
        walk = DeskWalk()
        for turn in range(100):
            if walk.season is not None:
                row = self.chance_row_behind(chance, walk.hands, len(walk.season.days))
            elif turn > 12 and chance.random() < 0.5:
                row = "open"
            else:
                row = self.chance_row_ahead(chance, walk.posts)
            row = self.worsened(chance, row)
            side = "ahead" if walk.season is None else "behind"
            told = outcome(desk.say, row)
            self.assertEqual(told, outcome(walk.say, row), (turn, row))
            sort = side + " " + (row.split(" ")[0] if told.startswith("'") else told)
            met[sort] = met.get(sort, 0) + 1

    def test_many_desks(self):
        met = {}
        chance = random.Random(19)
        for turn in range(150):
            self.hold_against_walk(chance, met)
        for sort in "post hand open NoRow Twice NoPost".split():
            self.assertGreater(met.get("ahead " + sort, 0), 10, sort)
        sorts = "ask withdraw off back close ill why had day asks NoRow NoHand NoDay Twice NoAsk Away Short"
        for sort in sorts.split():
            self.assertGreater(met.get("behind " + sort, 0), 10, sort)


if __name__ == "__main__":
    unittest.main()
