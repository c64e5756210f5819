import random
import unittest

from mendweights.desk import Desk
from mendweights.errors import MendError, NoRow, NoText, TooMany
from mendweights.hands import PlainHand
from mendweights.runs import run
from mendweights.texts import read_rows
from mendweights.widths import parting, width_square

APART = "1 2 1\n0 -1 0\n1 3 -1\n0 -2 4"
CROSSED = "0 0 0\n0 1 1\n1 0 1\n1 1 0"
ONES = "1 3\n1 -4\n1 0"
NOUGHTS = "0 3 1\n0 -4 0"
HALVES = "1 1/2\n0 1/3"
TEXTS = (APART, CROSSED, ONES, NOUGHTS, HALVES)
WORDS = ("weights", "mistakes", "part", "width")
WRONG_ROWS = (
    "", " ", "  ", "x", "put", "run", "book", "more", "none", "rows", "say", "help", "0", "5",
    "put ", "run ", " put", " run", "put 0 ", " put 0", "put  0", "put 0 1", "put 0 0", "put 0  ", "  put 0",
    "run 5 ", " run 5", "run  5", "run 5 5", "run 5000 1", "run 5001", "run 5002", "run 6000", "run 9999", "run 10000",
    "run 50000", "run 05000", "run 99999999999999999999",
    "put 00", "put 01", "put 000", "put +0", "put -0", "put +1", "put -1", "put 0.0", "put 1.", "put 0/1", "put 1/2",
    "put x", "put zero", "put 0x0", "put 1_0", "put 1,", "put 99", "put 9999", "put 10000", "put 99999999999999999999",
    "run 00", "run 05", "run 0005", "run +5", "run -5", "run -0", "run +0", "run 5.0", "run 5/2", "run x", "run most",
    "run 1e3", "run 1_0",
    "weights ", " weights", "weights 0", "weights weights", "weight", "weightss",
    "mistakes ", " mistakes", "mistakes 1", "mistake",
    "part ", " part", "part 1", "parts", "width ", " width", "width 0", "widths", "part width",
    "Put 0", "PUT 0", "pUT 0", "Run 5", "RUN 5", "Weights", "WEIGHTS", "Mistakes", "MISTAKES", "Part", "PART", "Width",
    "WIDTH", "puts 0", "put0", "run5", "runs 5", "0 put", "5 run", "put run", "put 0\n", "weights\n", "\nweights",
    "put\n0", "put 0\nput 1", "weights mistakes", "put,0", "put-0", "put/0",
)


class DeskCase(unittest.TestCase):
    def says(self, desk, row, wanted):
        answer = desk.say(row)
        self.assertIs(type(answer), str)
        self.assertEqual(answer, wanted)

    def is_refused(self, desk, row):
        with self.assertRaises(NoRow, msg=repr(row)) as caught:
            desk.say(row)
        self.assertIs(type(caught.exception), NoRow)
        self.assertIsInstance(caught.exception, MendError)
        self.assertIsInstance(caught.exception, ValueError)


class Puts(DeskCase):
    def test_of_rows_that_are_parted(self):
        desk = Desk(APART)
        self.says(desk, "put 1", "mistake")
        self.says(desk, "weights", "1 0 -1")
        self.says(desk, "put 0", "right")
        self.says(desk, "put 3", "right")
        self.says(desk, "weights", "1 0 -1")
        self.says(desk, "mistakes", "1")

    def test_of_rows_that_are_not(self):
        desk = Desk(CROSSED)
        for row, answer, weights in (
            ("put 0", "mistake", "0 0 -1"), ("put 0", "right", "0 0 -1"), ("put 2", "mistake", "0 1 0"),
            ("put 1", "mistake", "-1 0 -1"), ("put 3", "mistake", "0 0 0"), ("put 3", "mistake", "1 0 1"),
        ):
            self.says(desk, row, answer)
            self.says(desk, "weights", weights)
        self.says(desk, "mistakes", "5")

    def test_of_rows_of_one_side(self):
        desk = Desk(ONES)
        self.says(desk, "put 1", "mistake")
        self.says(desk, "put 1", "right")
        self.says(desk, "put 0", "mistake")
        self.says(desk, "weights", "-1 2")
        self.says(desk, "mistakes", "2")

    def test_the_rows_are_as_they_are_read(self):
        desk = Desk(HALVES)
        self.says(desk, "put 0", "mistake")
        self.says(desk, "weights", "3 1")
        self.says(desk, "put 1", "mistake")
        self.says(desk, "weights", "1 0")

    def test_the_first_and_the_last_of_thirty(self):
        text = "\n".join(f"1 {number}" for number in range(30))
        desk = Desk(text)
        self.says(desk, "put 29", "mistake")
        self.says(desk, "weights", "29 1")
        self.says(desk, "put 0", "right")
        self.says(desk, "put 9", "right")
        self.says(desk, "put 10", "right")
        for row in ("put 30", "put 31", "put 290", "put 029"):
            self.is_refused(desk, row)

    def test_one_row(self):
        desk = Desk("0 5")
        self.is_refused(desk, "put 1")
        self.says(desk, "put 0", "mistake")
        self.says(desk, "weights", "-5 -1")


class Runs(DeskCase):
    def test_of_rows_that_are_parted(self):
        desk = Desk(APART)
        self.says(desk, "run 5000", "book 0 3")
        self.says(desk, "weights", "4 -3 0")
        self.says(desk, "mistakes", "2")
        self.says(desk, "run 5000", "book")
        self.says(desk, "mistakes", "2")

    def test_a_longer_book(self):
        desk = Desk("1 3\n0 2")
        book = run(PlainHand(1), [((3,), 1), ((2,), 0)])
        self.assertGreater(len(book), 5)
        self.says(desk, "run 5000", " ".join(["book"] + [str(number) for number in book]))
        self.says(desk, "mistakes", str(len(book)))
        self.says(desk, "put 0", "right")
        self.says(desk, "put 1", "right")

    def test_just_as_many_and_one_fewer(self):
        book = run(PlainHand(1), [((3,), 1), ((2,), 0)])
        words = " ".join(["book"] + [str(number) for number in book])
        self.says(Desk("1 3\n0 2"), f"run {len(book)}", words)
        self.says(Desk("1 3\n0 2"), f"run {len(book) - 1}", "more")

    def test_more_leaves_the_hand_as_it_was_mended(self):
        for most in (0, 1, 2, 3, 7, 100, 5000):
            desk = Desk(CROSSED)
            hand = PlainHand(2)
            with self.assertRaises(TooMany):
                run(hand, read_rows(CROSSED)[1], most)
            self.says(desk, f"run {most}", "more")
            self.says(desk, "mistakes", str(most))
            self.says(desk, "weights", " ".join(str(number) for number in hand.weights()))

    def test_a_most_of_0(self):
        desk = Desk(APART)
        self.says(desk, "run 0", "more")
        self.says(desk, "mistakes", "0")
        self.says(desk, "weights", "0 0 0")
        self.says(desk, "run 2", "book 0 3")
        self.says(desk, "run 0", "book")

    def test_it_goes_on_from_where_the_hand_is(self):
        desk = Desk(APART)
        self.says(desk, "put 1", "mistake")
        self.says(desk, "run 5000", "book")
        self.says(desk, "mistakes", "1")

    def test_a_second_run_counts_its_own_mistakes(self):
        desk = Desk(CROSSED)
        self.says(desk, "run 4", "more")
        self.says(desk, "run 4", "more")
        self.says(desk, "mistakes", "8")

    def test_of_rows_of_one_side(self):
        desk = Desk(ONES)
        self.says(desk, "run 10", "book 0 1 0 1 0")
        self.says(desk, "weights", "1 5")
        self.says(desk, "mistakes", "5")
        self.says(desk, "run 0", "book")
        desk = Desk(NOUGHTS)
        self.says(desk, "run 5000", "book 0 1 0 1 0")
        self.says(desk, "weights", "-1 -3 -5")

    def test_numbers_of_two_figures(self):
        desk = Desk("\n".join(["1 1"] * 12 + ["0 0"]))
        self.says(desk, "run 5000", "book 0 12 12 0 12")
        self.says(desk, "weights", "2 -1")


class Parts(DeskCase):
    def test_of_rows_that_are_parted(self):
        self.says(Desk("1 2 0\n0 0 0"), "part", "1 0 -1")
        self.says(Desk("1 1\n0 3"), "part", "-1 2")
        self.says(Desk(APART), "part", " ".join(str(number) for number in parting(read_rows(APART)[1])))

    def test_of_rows_that_are_not(self):
        self.says(Desk(CROSSED), "part", "none")
        self.says(Desk("1 1\n0 1"), "part", "none")

    def test_of_rows_of_one_side(self):
        self.says(Desk(ONES), "part", "0 1")
        self.says(Desk(NOUGHTS), "part", "0 0 -1")
        self.says(Desk("1 1 2 3 4"), "part", "0 0 0 0 1")

    def test_of_the_rows_as_they_are_read(self):
        self.says(Desk(HALVES), "part", "2 -5")

    def test_the_hand_is_no_part_of_it(self):
        desk = Desk(APART)
        first = desk.say("part")
        desk.say("run 5000")
        self.says(desk, "part", first)


class Widths(DeskCase):
    def test_of_rows_that_are_parted(self):
        self.says(Desk("1 3\n0 1"), "width", "4")
        self.says(Desk("1 1 1\n0 0 0\n0 0 1\n0 1 0"), "width", "1/2")
        self.says(Desk("1 1 1 1\n0 1 1 0\n0 0 1 1\n0 1 0 1"), "width", "1/3")
        top, bottom = width_square(read_rows(APART)[1])
        self.says(Desk(APART), "width", str(top) if bottom == 1 else f"{top}/{bottom}")
        self.says(Desk("1 1000 1000 1000 1000\n0 -1000 -1000 -1000 -1000"), "width", "16000000")

    def test_of_rows_that_are_not(self):
        self.says(Desk(CROSSED), "width", "0")

    def test_of_rows_of_one_side(self):
        self.says(Desk(ONES), "width", "none")
        self.says(Desk(NOUGHTS), "width", "none")
        self.says(Desk("0 1"), "width", "none")

    def test_times_the_unit(self):
        self.says(Desk(HALVES), "width", "1")
        self.says(Desk("1 3/2\n0 1"), "width", "1")
        self.says(Desk("1 3/2\n0 0"), "width", "9")
        self.says(Desk("1 1/2 1/2\n0 0 0\n0 0 1/2\n0 1/2 0"), "width", "1/2")


class Counts(DeskCase):
    def test_at_first(self):
        for text in TEXTS:
            size = len(text.split("\n")[0].split(" "))
            self.says(Desk(text), "mistakes", "0")
            self.says(Desk(text), "weights", " ".join(["0"] * size))

    def test_asking_changes_nothing(self):
        for text in TEXTS:
            desk = Desk(text)
            desk.say("put 0")
            first = [desk.say(word) for word in WORDS]
            for turn in range(3):
                self.assertEqual([desk.say(word) for word in WORDS], first)


class Refused(DeskCase):
    def test_each_wrong_row(self):
        for row in WRONG_ROWS:
            with self.subTest(row=row):
                self.is_refused(Desk(APART), row)

    def test_what_is_refused_changes_nothing(self):
        for text in TEXTS:
            desk, other = Desk(text), Desk(text)
            for before in (["put 0"], ["put 1", "put 0"], ["run 3"], []):
                for row in before:
                    self.assertEqual(desk.say(row), other.say(row))
                for row in WRONG_ROWS:
                    self.is_refused(desk, row)
                for row in WORDS:
                    self.assertEqual(desk.say(row), other.say(row))

    def test_a_row_that_there_is_not(self):
        for many in (1, 2, 9, 10, 11, 30):
            desk = Desk("\n".join(["1 1"] * many))
            for number in (many, many + 1, many + 10, 10 * many, 1000 + many):
                self.is_refused(desk, f"put {number}")
            self.says(desk, f"put {many - 1}", "mistake")

    def test_just_5000_are_taken(self):
        self.says(Desk(APART), "run 5000", "book 0 3")
        self.says(Desk(APART), "run 4999", "book 0 3")
        self.is_refused(Desk(APART), "run 5001")

    def test_very_long_rows(self):
        desk = Desk(APART)
        for sign in ("0", "1", "x", " ", "put "):
            for word in ("", "put ", "run "):
                self.is_refused(desk, word + sign * 6000)


class TextsThatAreNotAsTold(unittest.TestCase):
    def test_they_are_refused_as_by_read_rows(self):
        for text in (
            "", "\n", "1 5\n", "0 1\n1 01", "0 1\n1 1 1", "2 1", "0 1\n0 1\n0 9999", "0 1\n0 1\n2 9999", "0 1/1",
            "\n".join(["0 1"] * 31), "0 1\n 0 1", "0 1\n0 -0", "0 1\n0 2/4",
        ):
            with self.assertRaises(NoText) as wanted:
                read_rows(text)
            with self.assertRaises(NoText) as caught:
                Desk(text)
            self.assertIs(type(caught.exception), NoText)
            self.assertEqual(caught.exception.line, wanted.exception.line)


class Apart(DeskCase):
    def test_two_desks_do_not_change_one_another(self):
        one, other = Desk(CROSSED), Desk(CROSSED)
        one.say("run 9")
        self.says(other, "mistakes", "0")
        self.says(other, "weights", "0 0 0")
        other.say("put 1")
        self.says(one, "mistakes", "9")
        self.says(other, "mistakes", "1")
        self.says(other, "weights", "-1 -1 -1")

    def test_like_rows_have_like_answers_at_a_new_desk(self):
        source = random.Random(81)
        for turn in range(20):
            text = source.choice(TEXTS)
            rows = [
                source.choice(("put 0", "put 1", "run 0", "run 2", "run 40") + WORDS) for place in range(12)
            ]
            one, other = Desk(text), Desk(text)
            self.assertEqual([one.say(row) for row in rows], [other.say(row) for row in rows])


class LikeTheHand(DeskCase):
    def answer_by(self, hand, rows, row):
        """The answer of point 28, by a hand of the test's own."""
        words = row.split(" ")
        if words[0] == "put":
            return "mistake" if hand.put(*rows[int(words[1])]) else "right"
        if words[0] == "run":
            try:
                return " ".join(["book"] + [str(number) for number in run(hand, rows, int(words[1]))])
            except TooMany:
                return "more"
        return {
            "weights": " ".join(str(number) for number in hand.weights()),
            "mistakes": str(hand.mistakes()),
            "part": " ".join(str(number) for number in parting(rows) or ["none"]),
            "width": self.width_by(rows),
        }[row]

    def width_by(self, rows):
        if len({side for point, side in rows}) == 1:
            return "none"
        top, bottom = width_square(rows)
        return str(top) + ("" if bottom == 1 else "/" + str(bottom))

    def test_many_texts(self):
        source = random.Random(82)
        seen = set()
        for turn in range(150):
            many, lines = source.randint(1, 4), source.choice((1, 2, 3, 4, 30))
            reach = source.choice((1, 5, 400))
            text = "\n".join(
                " ".join([source.choice("01")] + [
                    str(source.randint(-reach, reach)) if source.random() < 0.8 else "1/2" for place in range(many)
                ]) for one in range(lines)
            )
            rows = read_rows(text)[1]
            desk, hand = Desk(text), PlainHand(many)
            for ask in range(10):
                row = source.choice(WORDS + (f"put {source.randrange(lines)}", f"run {source.randint(0, 60)}"))
                wanted = self.answer_by(hand, rows, row)
                self.says(desk, row, wanted)
                seen.add(wanted.split(" ")[0])
        self.assertLessEqual({"mistake", "right", "book", "more", "none"}, seen)


if __name__ == "__main__":
    unittest.main()
