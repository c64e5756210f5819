"""A desk: the rows of a text and a plain hand for them, asked by rows of words and answering with texts."""

from mendweights.errors import NoRow, OneSide, TooMany
from mendweights.hands import PlainHand
from mendweights.runs import run
from mendweights.texts import is_number, read_rows
from mendweights.widths import parting, width_square

MOST_MISTAKES = 5000


def number_of(word, most):
    if not is_number(word) or int(word) > most:
        raise NoRow("here a number is wanted, in figures, and not so great")
    return int(word)


def spaced(words):
    return " ".join([str(word) for word in words])


def put_answer(hand, row):
    return "mistake" if hand.put(row[0], row[1]) else "right"


def run_answer(hand, rows, most):
    try:
        book = run(hand, rows, most)
    except TooMany:
        return "more"
    return spaced(["book"] + book)


def part_answer(rows):
    weights = parting(rows)
    return "none" if weights is None else spaced(weights)


def width_answer(rows):
    try:
        width = width_square(rows)
    except OneSide:
        return "none"
    top = str(width[0])
    return top if width[1] == 1 else top + "/" + str(width[1])


class Desk:
    def __init__(self, text):
        self.rows = read_rows(text)[1]
        self.hand = PlainHand(len(self.rows[0][0]))

    def say(self, row):
        words = row.split(" ")
        if len(words) == 1:
            return self.say_word(row)
        if len(words) == 2:
            return self.say_with_number(words[0], words[1])
        raise NoRow("a row has one word or two")

    def say_word(self, word):
        if word == "weights":
            return spaced(self.hand.weights())
        if word == "mistakes":
            return str(self.hand.mistakes())
        if word == "part":
            return part_answer(self.rows)
        if word == "width":
            return width_answer(self.rows)
        raise NoRow("there is no such word by itself")

    def say_with_number(self, word, figures):
        if word == "put":
            return put_answer(self.hand, self.rows[number_of(figures, len(self.rows) - 1)])
        if word == "run":
            return run_answer(self.hand, self.rows, number_of(figures, MOST_MISTAKES))
        raise NoRow("there is no such word with a number")
