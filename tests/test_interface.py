"""Everything that the interface lists is there, under its name and with its arguments."""

import importlib
import inspect
import unittest

FUNCTIONS = {
    "houses": ("is_house(posts, able)", "able_for(able, hands, some)", "lack_of(able, hands, some)"),
    "mannings": ("manning_of(posts, able, hands)", "is_manning(posts, able, hands, places)"),
    "leaves": ("may_go(posts, able, there, away)", "grant(posts, able, there, asks)"),
    "papers": (
        "paper_of(posts, able, there, asks, hand)", "is_granting(posts, able, there, asks, granted)",
        "bound_of(posts, able, there, asks)"),
    "changes": ("fallen_ill(posts, able, there, asks, hand)",),
    "seasons": ("Season(posts, able)",),
    "texts": ("read_words(row)", "read_number(word)", "read_name(word)"),
    "desk": ("Desk()",),
}

METHODS = {
    ("seasons", "Season"): (
        "ask(self, hand, day)", "withdraw(self, hand, day)", "off(self, hand, day)", "back(self, hand, day)",
        "close(self)", "ill(self, hand)", "next_day(self)", "had(self, hand)", "asks_of(self, day)", "granted(self)",
        "why(self, hand)"),
    ("desk", "Desk"): ("say(self, row)",),
}


class InterfaceTest(unittest.TestCase):
    def assert_there(self, holder, told):
        name = told.partition("(")[0]
        self.assertEqual(name + str(inspect.signature(getattr(holder, name))), told)

    def test_functions_and_classes(self):
        for module, rows in FUNCTIONS.items():
            for told in rows:
                self.assert_there(importlib.import_module("furlough." + module), told)

    def test_methods(self):
        for (module, name), rows in METHODS.items():
            holder = getattr(importlib.import_module("furlough." + module), name)
            for told in rows:
                self.assert_there(holder, told)


if __name__ == "__main__":
    unittest.main()
