import random
import re
import unittest
from fractions import Fraction
from math import gcd, lcm

from mendweights.errors import MendError, NoText
from mendweights.texts import read_rows

WHOLE = "0|-?[1-9][0-9]{0,3}"
BROKEN = "(-?[1-9][0-9]{0,3})/([2-9])"
WRONG_WORDS = (
    "", "00", "01", "007", "-0", "-00", "-01", "10000", "-10000", "00001", "99999", "123456789",
    "1/0", "1/1", "1/10", "1/12", "1/02", "1/", "/2", "/", "1//2", "1/2/3", "0/2", "0/9", "-0/3", "00/2", "01/2",
    "2/2", "2/4", "4/2", "6/9", "-6/9", "9999/9", "-9999/3", "10000/3", "1/-2", "-1/-2", "--1", "-", "-/2", "1-", "1-2",
    "+1", "+0", "1.0", "1.5", ".", ".5", "1,2", "1e3", "1_0", "0x1", "x", "one", "1/x", "x/2", "(1)", "1/2.", "~", "1;",
    "1/ 2", "1 /2", "- 1",
)
RIGHT_WORDS = {
    "0": 0, "1": 1, "-1": -1, "9": 9, "10": 10, "100": 100, "999": 999, "1000": 1000, "-1000": -1000,
    "1/2": Fraction(1, 2), "-1/2": Fraction(-1, 2), "7/9": Fraction(7, 9), "-250/3": Fraction(-250, 3),
    "100/9": Fraction(100, 9), "10/3": Fraction(10, 3), "125/8": Fraction(125, 8), "-1/7": Fraction(-1, 7),
}


def number_by(word):
    """A coordinate as point 27 tells it, or None."""
    if re.fullmatch(WHOLE, word):
        return Fraction(int(word))
    found = re.fullmatch(BROKEN, word)
    if found and gcd(int(found[1]), int(found[2])) == 1:
        return Fraction(int(found[1]), int(found[2]))
    return None


def line_by(line):
    words = line.split(" ")
    numbers = [number_by(word) for word in words[1:]]
    if words[0] not in ("0", "1") or len(numbers) not in (1, 2, 3, 4) or None in numbers:
        return None
    return numbers, int(words[0])


def read_by(text):
    """The unit and rows of a text as point 27 tells them, or the number of the line that is refused."""
    lines = [line_by(line) for line in text.split("\n")]
    for place, line in enumerate(lines):
        if line is None or place > 29 or len(line[0]) != len(lines[0][0]):
            return place
    unit = lcm(*[number.denominator for numbers, side in lines for number in numbers])
    rows = [(tuple(int(number * unit) for number in numbers), side) for numbers, side in lines]
    if any(not -1000 <= number <= 1000 for point, side in rows for number in point):
        return 0
    return unit, rows


class TextCase(unittest.TestCase):
    def is_so(self, text, unit, rows):
        answer = read_rows(text)
        self.assertIs(type(answer), tuple)
        self.assertEqual(answer, (unit, rows))
        self.assertEqual([type(value) for value in answer], [int, list])
        for row in answer[1]:
            self.assertEqual([type(value) for value in row], [tuple, int])
            self.assertEqual({type(number) for number in row[0]}, {int})

    def is_refused(self, text, line):
        with self.assertRaises(NoText, msg=repr(text)) as caught:
            read_rows(text)
        self.assertIs(type(caught.exception), NoText)
        self.assertIsInstance(caught.exception, MendError)
        self.assertIsInstance(caught.exception, ValueError)
        self.assertEqual(caught.exception.line, line, repr(text))
        self.assertIs(type(caught.exception.line), int)

    def is_as_told(self, text):
        wanted = read_by(text)
        if type(wanted) is int:
            self.is_refused(text, wanted)
            return False
        self.is_so(text, *wanted)
        return True


class Read(TextCase):
    def test_one_line(self):
        self.is_so("0 0", 1, [((0,), 0)])
        self.is_so("1 0", 1, [((0,), 1)])
        self.is_so("1 12 -7", 1, [((12, -7), 1)])
        self.is_so("0 1 2 3", 1, [((1, 2, 3), 0)])
        self.is_so("1 -1 20 -300 1000", 1, [((-1, 20, -300, 1000), 1)])

    def test_several_lines(self):
        self.is_so("0 1\n1 2\n0 1", 1, [((1,), 0), ((2,), 1), ((1,), 0)])
        self.is_so("1 1 1\n1 0 -1", 1, [((1, 1), 1), ((0, -1), 1)])

    def test_up_to_thirty_lines(self):
        for many in range(1, 31):
            text = "\n".join(str(one % 2) + " " + str(one) for one in range(many))
            self.is_so(text, 1, [((one,), one % 2) for one in range(many)])

    def test_the_unit_is_the_least(self):
        self.is_so("1 1/2", 2, [((1,), 1)])
        self.is_so("1 -3/2 5", 2, [((-3, 10), 1)])
        self.is_so("1 1/2\n0 1/3", 6, [((3,), 1), ((2,), 0)])
        self.is_so("1 1/4 1/6", 12, [((3, 2), 1)])
        self.is_so("1 1/8 1/4 1/2", 8, [((1, 2, 4), 1)])
        self.is_so("1 1/8 2/9", 72, [((9, 16), 1)])
        self.is_so("0 0\n1 1/9\n1 -2/3", 9, [((0,), 0), ((1,), 1), ((-6,), 1)])
        self.is_so("0 1/5 1/7 1/8 1/9", 2520, [((504, 360, 315, 280), 0)])
        for bottom in range(2, 10):
            self.is_so(f"0 1/{bottom}", bottom, [((1,), 0)])
            self.is_so(f"0 -1/{bottom}\n1 1", bottom, [((-1,), 0), ((bottom,), 1)])

    def test_each_right_word(self):
        for word, number in RIGHT_WORDS.items():
            number = Fraction(number)
            self.is_so("0 " + word, number.denominator, [((number.numerator,), 0)])
            self.is_so("0 0 0\n1 0 " + word, number.denominator, [((0, 0), 0), ((0, number.numerator), 1)])

    def test_a_list_told_may_be_changed(self):
        text = "0 1\n1 2"
        first = read_rows(text)
        first[1].clear()
        self.is_so(text, 1, [((1,), 0), ((2,), 1)])


class Reach(TextCase):
    def test_just_at_the_edge(self):
        self.is_so("1 1000\n0 -1000", 1, [((1000,), 1), ((-1000,), 0)])
        self.is_so("1 500\n0 1/2\n0 -500", 2, [((1000,), 1), ((1,), 0), ((-1000,), 0)])
        self.is_so("1 125 1/8", 8, [((1000, 1), 1)])
        self.is_so("1 1000/9 -1000/9", 9, [((1000, -1000), 1)])
        self.is_so("1 1000/3\n0 -1000/3", 3, [((1000,), 1), ((-1000,), 0)])

    def test_just_beyond(self):
        for text in (
            "1 1001", "1 -1001", "0 0\n0 0\n1 1001", "0 0\n0 0\n1 -1001", "1 501\n0 1/2", "1 1/2\n0 -501",
            "1 1001/2", "1 -1001/9", "1 126 1/8", "1 0 0 0 1001", "1 1/8 8/9 -14 0", "1 2/5 1/7 1/8 1/9",
        ):
            with self.subTest(text=text):
                self.is_refused(text, 0)

    def test_9999_in_whatever_line(self):
        for many in (1, 2, 5, 30):
            for place in range(many):
                for word in ("9999", "-9999", "9998/9"):
                    lines = ["0 1"] * many
                    lines[place] = "1 " + word
                    self.is_refused("\n".join(lines), 0)

    def test_a_wrong_line_is_told_ahead_of_that(self):
        for far in range(4):
            for place in range(4):
                lines = ["0 1"] * 4
                lines[far] = "0 9999"
                for wrong in ("", "2 1", "0 01", "0 1 1", "0 9999 1", "0 10000"):
                    lines[place] = wrong
                    if place > 0:
                        self.is_refused("\n".join(lines), place)
        self.is_refused("\n".join(["0 9999"] * 31), 30)
        self.is_refused("0 9999\n", 1)


class Refused(TextCase):
    def in_each_place(self, wrong, right="1 5"):
        for many in (1, 2, 3, 30):
            for place in sorted({0, 1, many // 2, many - 1} & set(range(many))):
                lines = [right] * many
                lines[place] = wrong
                text = "\n".join(lines)
                # A first line that is right by itself makes the second one the wrong one.
                wanted = 1 if place == 0 and line_by(wrong) is not None else place
                if not (many == 1 and line_by(wrong) is not None):
                    self.is_refused(text, wanted)

    def test_an_empty_text(self):
        self.is_refused("", 0)

    def test_an_empty_line(self):
        self.in_each_place("")
        self.is_refused("\n", 0)
        self.is_refused("\n\n", 0)
        self.is_refused("1 5\n", 1)
        self.is_refused("1 5\n1 6\n", 2)
        self.is_refused("1 5\n\n1 6", 1)
        self.is_refused("\n1 5", 0)

    def test_a_thirty_first_line(self):
        right = ["0 7"] * 30
        self.is_so("\n".join(right), 1, [((7,), 0)] * 30)
        for last in ("0 7", "1 7", "", "0 7 7", "x", "0 9999"):
            self.is_refused("\n".join(right + [last]), 30)
            self.is_refused("\n".join(right + [last] * 5), 30)
        self.is_refused("\n".join(right) + "\n", 30)
        self.is_refused("\n".join(right[:29] + ["0 8 8", "0 7"]), 29)
        self.is_refused("\n".join(["0"] + right), 0)

    def test_a_side_that_there_is_not(self):
        for side in ("2", "-1", "00", "01", "10", "11", "9", "x", "", "+1", "-0", "0/2", "1/2", "1.", "01234", "0,"):
            with self.subTest(side=side):
                self.in_each_place(side + " 5")

    def test_no_coordinate(self):
        for wrong in ("0", "1", "0 ", "1 ", " ", "5"):
            self.in_each_place(wrong)

    def test_a_fifth_coordinate(self):
        self.in_each_place("0 1 2 3 4 5", "0 1 2 3 4")
        self.in_each_place("0 1 2 3 4 5")
        self.is_refused("0 1 2 3 4 5\n0 1 2 3 4 5", 0)

    def test_more_or_fewer_than_in_line_0(self):
        numbers = ["1", "2", "3", "4"]
        for first in range(1, 5):
            for other in range(1, 5):
                if first != other:
                    right, wrong = "0 " + " ".join(numbers[:first]), "0 " + " ".join(numbers[:other])
                    self.is_refused("\n".join([right, wrong]), 1)
                    self.is_refused("\n".join([right, right, wrong, wrong, right]), 2)
                    self.is_refused("\n".join([right] * 29 + [wrong]), 29)
                    self.in_each_place(wrong, right)

    def test_a_blank_more(self):
        for wrong in (" 1 5", "1  5", "1 5 ", "  1 5", "1   5", "1 5  "):
            self.in_each_place(wrong)
        for wrong in ("1 5  6", " 1 5 6", "1 5 6 ", "1  5 6"):
            self.in_each_place(wrong, "1 5 6")

    def test_each_wrong_word(self):
        for word in WRONG_WORDS:
            with self.subTest(word=word):
                self.in_each_place("0 " + word)
                self.in_each_place("0 1 2 " + word, "0 1 2 3")
                self.in_each_place("0 " + word + " 1 2", "0 1 2 3")

    def test_the_first_wrong_line(self):
        self.is_refused("0 1\n0 01\n2 1", 1)
        self.is_refused("0 1\n2 1\n0 01", 1)
        self.is_refused("0 x\n2 1\n0 01", 0)
        self.is_refused("0 1 1\n0 1\n0 x", 1)

    def test_very_long_words(self):
        for long in (5, 200, 5000):
            for word in ("1" * long, "-" + "1" * long, "0" * long, "1/" + "2" * long, "1" * long + "/2", "-" * long):
                self.is_refused("0 1\n0 " + word, 1)
        self.is_refused("0 1\n" + "1" * 5000 + " 1", 1)
        self.is_refused("0 1\n0" + " 1" * 5000, 1)
        self.is_refused("0 1\n" * 5000, 30)


class LikeTheModel(TextCase):
    def test_all_short_words(self):
        signs = "01249-/ +."
        words = [""]
        for turn in range(4):
            words = words + [word + sign for word in words if len(word) == turn for sign in signs]
        right = sum(self.is_as_told("1 " + word) for word in words)
        self.assertGreater(right, 100)

    def test_texts_with_a_sign_changed(self):
        source = random.Random(71)
        right = list(RIGHT_WORDS)
        seen = {True: 0, False: 0}
        for turn in range(3000):
            many, lines = source.randint(1, 4), source.choice((1, 2, 3, 30))
            some = source.sample(right, 3)
            text = "\n".join(
                " ".join([source.choice("01")] + [source.choice(some) for place in range(many)])
                for one in range(lines)
            )
            for change in range(source.choice((0, 1, 1, 2))):
                place = source.randrange(len(text))
                text = text[:place] + source.choice(("", "0", "1", "3", "-", "/", " ", "\n", "x")) + text[
                    place + source.randrange(2):]
                text = text or "0"
            seen[self.is_as_told(text)] += 1
        self.assertGreater(min(seen.values()), 500)

    def test_any_signs(self):
        source = random.Random(72)
        signs = [chr(number) for number in range(32, 127)] + ["\n"]
        for turn in range(1000):
            self.is_as_told("".join(source.choice(signs) for place in range(source.randint(0, 9))))


if __name__ == "__main__":
    unittest.main()
