"""Texts of rows: a line for each, its side and its coordinates, read as whole numbers of a unit."""

from mendweights.errors import NoText
from mendweights.parts import shared_factor
from mendweights.points import least_multiple

MOST_LINES = 30
MOST_COORDINATES = 4
MOST_FIGURES = 4
REACH = 1000
FIGURES = "0123456789"
BOTTOMS = ("2", "3", "4", "5", "6", "7", "8", "9")


def is_number(word):
    if not 1 <= len(word) <= MOST_FIGURES:
        return False
    if word[0] == "0" and word != "0":
        return False
    return all([sign in FIGURES for sign in word])


def is_coordinate(word):
    unsigned = word[1:] if word.startswith("-") else word
    pieces = unsigned.partition("/")
    if not is_number(pieces[0]) or word.startswith("-0"):
        return False
    if pieces[1] == "":
        return True
    # Of 0 each bottom is a factor itself, so that a fraction with the top 0 is never in lowest terms here.
    return pieces[2] in BOTTOMS and shared_factor(int(pieces[0]), int(pieces[2])) == 1


def is_line(words):
    coordinates = words[1:]
    if words[0] not in ("0", "1") or not 1 <= len(coordinates) <= MOST_COORDINATES:
        return False
    return all([is_coordinate(word) for word in coordinates])


def look_at_lines(lines):
    for number, words in enumerate(lines):
        if number >= MOST_LINES or not is_line(words) or len(words) != len(lines[0]):
            raise NoText(number)


def fraction_of(word):
    pieces = word.partition("/")
    return (int(pieces[0]), 1 if pieces[2] == "" else int(pieces[2]))


def unit_of(lines):
    bottoms = []
    for words in lines:
        bottoms.extend([fraction_of(word)[1] for word in words[1:]])
    return least_multiple(bottoms)


def in_units(word, unit):
    fraction = fraction_of(word)
    return fraction[0] * (unit // fraction[1])


def row_of(words, unit):
    return (tuple([in_units(word, unit) for word in words[1:]]), int(words[0]))


def look_at_reach(rows):
    for point, side in rows:
        if any([abs(number) > REACH for number in point]):
            raise NoText(0)


def read_rows(text):
    lines = [line.split(" ") for line in text.split("\n")]
    look_at_lines(lines)
    unit = unit_of(lines)
    rows = [row_of(words, unit) for words in lines]
    look_at_reach(rows)
    return (unit, rows)
