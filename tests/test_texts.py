import string
import unittest

from furlough.errors import NoRow
from furlough.texts import read_name, read_number, read_words
from helpers import LeaveCase

SIGNS = [chr(number) for number in range(32, 127)] + ["\t", "\n", "\r", "\x0b", "\x0c"]


class ReadWordsTest(LeaveCase):
    def assert_words(self, row, words):
        told = self.told(read_words, row)
        self.assertIs(type(told), list)
        self.assertEqual(told, words)

    def test_single_blanks(self):
        for words in (["a"], ["a", "b"], ["ask", "ann", "12"], ["x"] * 100, ["post", "post"], ["~", "!", "%d", "\\"]):
            self.assert_words(" ".join(words), words)
        self.assert_words("a" * 10000, ["a" * 10000])

    def test_each_sign_other_than_a_blank_is_a_word(self):
        for sign in SIGNS[1:]:
            self.assert_words(sign, [sign])
            self.assert_words(sign + " " + sign * 2, [sign, sign * 2])
            self.assert_words("a" + sign + "b " + sign, ["a" + sign + "b", sign])

    def test_tabs_and_line_ends_part_nothing(self):
        self.assert_words("ask\tann 1", ["ask\tann", "1"])
        self.assert_words("ask ann\n1", ["ask", "ann\n1"])
        self.assert_words("close\n", ["close\n"])
        self.assert_words("\tclose", ["\tclose"])
        self.assert_words("\n", ["\n"])
        self.assert_words("\t \n", ["\t", "\n"])

    def test_no_row(self):
        for row in ("", " ", "  ", "   ", " a", "a ", " a ", "a  b", "a b  c", "a   b", "a b ", " a b", "\t ", " \n"):
            self.assert_refused(NoRow, read_words, row)

    def test_the_list_is_the_askers_own(self):
        self.assert_own(read_words, "ask ann 1")
        self.assert_own(read_words, "close")


class ReadNumberTest(LeaveCase):
    def assert_number(self, word, number):
        told = self.told(read_number, word)
        self.assertIs(type(told), int)
        self.assertEqual(told, number)

    def test_numbers(self):
        for number in range(2000):
            self.assert_number(str(number), number)
        for figures in range(1, 8):
            for number in (10 ** (figures - 1), 10 ** figures - 1, int("1234567"[:figures]), int("9080706"[:figures])):
                self.assert_number(str(number), number)

    def test_too_many_figures(self):
        for word in ("10000000", "12345678", "99999999", "1" * 9, "1" * 40, "9" * 5000, "00000000", "00000001"):
            self.assert_refused(NoRow, read_number, word)

    def test_a_0_ahead(self):
        for word in ("00", "01", "000", "007", "0000000", "0000001", "0123456"):
            self.assert_refused(NoRow, read_number, word)

    def test_no_figures(self):
        for word in ("", " ", "a", "-1", "+1", "-0", "1.0", "1_0", "1e3", "0x1", " 1", "1 ", "1\n", "\t1", "1 2", "i"):
            self.assert_refused(NoRow, read_number, word)

    def test_each_other_sign(self):
        for sign in SIGNS:
            if sign not in string.digits:
                for word in (sign, sign + "1", "1" + sign, "1" + sign + "1"):
                    self.assert_refused(NoRow, read_number, word)


class ReadNameTest(LeaveCase):
    def assert_name(self, word):
        told = self.told(read_name, word)
        self.assertIs(type(told), str)
        self.assertEqual(told, word)

    def test_names(self):
        for letters in range(1, 9):
            for word in ("a" * letters, "z" * letters, "abcdefgh"[:letters], string.ascii_lowercase[-letters:]):
                self.assert_name(word)
        for letter in string.ascii_lowercase:
            self.assert_name(letter)
        for word in ("post", "hand", "open", "ask", "withdraw", "none", "granted", "ok"):
            self.assert_name(word)

    def test_too_many_letters(self):
        for word in ("abcdefghi", "a" * 9, "z" * 10, "a" * 1000):
            self.assert_refused(NoRow, read_name, word)

    def test_no_letters(self):
        for word in ("", " ", "A", "Ann", "anN", "ann1", "1", "a b", "a-b", "a_b", "ann\n", "\tann", " ann", "ann "):
            self.assert_refused(NoRow, read_name, word)

    def test_each_other_sign(self):
        for sign in SIGNS:
            if sign not in string.ascii_lowercase:
                for word in (sign, sign + "a", "a" + sign, "a" + sign + "a"):
                    self.assert_refused(NoRow, read_name, word)


if __name__ == "__main__":
    unittest.main()
