"""Texts: the words of a row, and the numbers and names among them."""

from furlough.errors import NoRow

FIGURES = "0123456789"
MOST_FIGURES = 7
LETTERS = "abcdefghijklmnopqrstuvwxyz"
MOST_LETTERS = 8


def read_words(row):
    words = row.split(" ")
    # Between two blanks together, ahead of a first one and behind a last one lies a word
    # without signs, and so it is with a text without signs.
    if "" in words:
        raise NoRow("the words are not parted by single blanks")
    return words


def read_number(word):
    if not is_written_in(word, FIGURES, MOST_FIGURES):
        raise NoRow("a number has one to seven figures")
    if word[0] == "0" and word != "0":
        raise NoRow("a number begins with no 0")
    return int(word)


def read_name(word):
    if not is_written_in(word, LETTERS, MOST_LETTERS):
        raise NoRow("a name has one to eight of the letters a to z")
    return word


def is_written_in(word, signs, most):
    if len(word) < 1 or len(word) > most:
        return False
    return all([sign in signs for sign in word])
