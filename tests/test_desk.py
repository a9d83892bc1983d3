import copy
import inspect
import random
import re
import unittest
from itertools import combinations

from fewdistances.bars import bar, spare
from fewdistances.desk import Desk
from fewdistances.errors import Alike, NoDeed, NoLine, NoNumber, NoPoint, NoText, TooMany
from fewdistances.texts import read, shown
from fewdistances.unlike import first_like
from tests.refusing import RefusalCase
from tests.samples import (
    BIG, BOARD, CORNERS, LOTS, ODD_THINGS, SQUARE, bent, plain_far, plain_pairs, plain_threes, plain_unlike, row,
    unlike_forty,
)
from tests.test_circles import plain_round
from tests.test_texts import NOT_WRITTEN
from tests.test_two import plain_square

THIRTY = "9" * 30
QUESTIONS = ("lot", "fars", "many", "often 1", "often 25", "threes", "unlike", "round", "square", "bar", "spare")
NO_POINTS = (
    "0", "0,", ",0", ",", "0,0,0", "a,b", "0,a", "-0,0", "0,-0", "+1,0", "01,0", "0,01", "1001,0", "0,-1001", "P",
    f"{BIG},0", "0,0\n", "\n0,0", "0,\n0", "\n", "(0,0)", "0;0", "0.0", "none", "0,0,", "-,0", "9" * 300 + ",1",
)
NO_NUMBERS = (
    "-0", "+1", "01", "-01", "00", "a", "N", "1.0", "1,0", "0,0", "--1", "-", "1\n", "\n1", "\n", "1e5", "0x1", "1_0",
    "9" * 31, "-" + "9" * 31, "1" + "0" * 30, "0" * 31, "9" * 300, "one", "True", "1-",
)
NO_LINES = (
    "", " ", "  ", "\n", " \n", "\n ", "a", "hello", "0,0", "1", "lots", "lo", "LOT", "Lot", "Lot 0,0", "LOT 0,0",
    " lot", " lot 0,0", "\nlot", "lot\n", "lot\n0,0", "lot\t0,0", "\nlot 0,0",
    "fars ", " fars", "fars  ", "far", "FARS", "Fars", "fars\n", "\nfars", "fa\nrs", "fars 1", "fars fars", "fars \n",
    "many 1", "many ", "threes 0,0", "unlike x", "round 0,0 1,1", "square lot", "bar 5", "bar 1 2", "spare 1",
    "often", "often ", "often  1", "often 1 ", "often 1 2", " often 1", "Often 1", "often\n1", "oft en 1", "often 1 \n",
    "fits", "fits ", "fits  0,0", "fits 0,0 ", "fits 0,0 1,1", "Fits 0,0", "fits\n0,0", "fits, 0,0",
    "put", "put ", "put  0,1", "put 0,1 ", " put 0,1", "put 0,1 0,2", "put 0, 1", "put 0 1", "Put 0,1", "PUT 0,1",
    "put\n0,1", "\nput 0,1", "put\t0,1", "take", "take ", "take 0,0 0,1", "take  0,0", "Take 0,0", "taken 0,0",
    "move", "move ", "move 1", "move 1 ", "move 1 2 ", "move 1 2 3", "move  1 2", "move 1  2", " move 1 2",
    "Move 1 2", "move 1,2", "move 1\n2", "move\n1 2", "move a b c", "turn ", "turn 1", "Turn", "turn\n", " turn",
    "turn turn", "mirror ", "mirror 0,0", "Mirror", "mirrored", "back ", "back 1", " back", "Back", "back\n", "backs",
    "put P P", "moved 1 2", "say lot", "help", "undo", "quit", "lot,0,0", "lot;", "none", "ok", "x" * 600, " " * 600,
)


def told(desk):
    """All that a desk answers to questions that are not refused."""
    return [desk.say(question) for question in QUESTIONS]


def said(*lines):
    """A desk that has been told these lines."""
    desk = Desk()
    for line in lines:
        desk.say(line)
    return desk


def yes(truth):
    return "yes" if truth else "no"


NUMBER = re.compile(r"(0|-?[1-9][0-9]{0,29})")


def plain_number(word):
    return int(word) if NUMBER.fullmatch(word) else None


def plain_point(word):
    numbers = [plain_number(part) for part in word.split(",")]
    if len(numbers) != 2 or None in numbers or max(map(abs, numbers)) > 1000:
        return None
    return tuple(numbers)


class Model:
    """A slow desk: it keeps the deeds that stand, and does them all anew for each line."""

    def __init__(self):
        self.deeds = []

    def lot(self):
        lot = {(0, 0)}
        for word, *rest in self.deeds:
            if word == "lot":
                lot = set(rest[0])
            elif word == "put":
                lot = lot | {rest[0]}
            elif word == "take":
                lot = lot - {rest[0]}
            elif word == "move":
                lot = {(x + rest[0], y + rest[1]) for x, y in lot}
            elif word == "turn":
                lot = {(-y, x) for x, y in lot}
            else:
                lot = {(y, x) for x, y in lot}
        return tuple(sorted(lot))

    def say(self, line):
        """The answer, or the class of the refusal."""
        lot = self.lot()
        if line[:4] == "lot ":
            points = [plain_point(word) for word in line[4:].split(" ")]
            if None in points or points != sorted(set(points)) or len(points) > 40:
                return NoText
            return self.do("lot", points)
        word, *rest = line.split(" ")
        forms = {"put": "P", "take": "P", "fits": "P", "often": "N", "move": "NN"}
        known = ("turn", "mirror", "back", "lot", "fars", "many", "threes", "unlike", "round", "square", "bar", "spare")
        if word not in forms and word not in known or len(rest) != len(forms.get(word, "")) or "" in rest:
            return NoLine
        values = []
        for kind, part in zip(forms.get(word, ""), rest):
            values.append(plain_point(part) if kind == "P" else plain_number(part))
            if values[-1] is None:
                return NoPoint if kind == "P" else NoNumber
        if word in ("put", "take", "move", "turn", "mirror"):
            return self.refusal(lot, word, values) or self.do(word, *values)
        if word == "back":
            if not self.deeds:
                return NoDeed
            self.deeds.pop()
            return "ok"
        return self.answer(lot, word, values)

    def refusal(self, lot, word, values):
        if word == "put":
            if values[0] in lot:
                return NoDeed
            if len(lot) == 40:
                return TooMany
        if word == "take" and (values[0] not in lot or len(lot) == 1):
            return NoDeed
        if word == "move":
            for x, y in lot:
                if max(abs(x + values[0]), abs(y + values[1])) > 1000:
                    return NoPoint
        return None

    def do(self, *deed):
        self.deeds.append(deed)
        return "ok"

    def answer(self, lot, word, values):
        pairs = plain_pairs(lot)
        if word == "fits":
            if not plain_unlike(lot):
                return Alike
            return yes(values[0] not in lot and plain_unlike(lot + (values[0],)))
        if word == "often":
            return str(pairs.count(values[0]))
        return {
            "lot": " ".join(f"{x},{y}" for x, y in lot),
            "fars": " ".join(map(str, sorted(set(pairs)))) or "none",
            "many": str(len(set(pairs))),
            "threes": str(len(plain_threes(lot))) if word == "threes" else "",
            "unlike": yes(plain_unlike(lot)),
            "round": yes(plain_round(lot)),
            "square": yes(plain_square(lot)),
            "bar": str(bar(len(lot))),
            "spare": str(len(set(pairs)) - bar(len(lot))),
        }[word]


class DeskCase(RefusalCase):

    def assert_unchanged(self, desk, kind, line):
        """The line is refused, and changes neither the lot nor the deeds that stand."""
        before = told(desk)
        self.assert_refused(kind, desk.say, line)
        self.assertEqual(told(desk), before, line)


class LotTest(DeskCase):

    def test_at_first(self):
        desk = Desk()
        self.assertEqual(desk.say("lot"), "0,0")
        self.assertEqual(told(desk), ["0,0", "none", "0", "0", "0", "0", "yes", "yes", "no", "0", "0"])

    def test_a_lot_is_kept(self):
        for lot in LOTS:
            desk = Desk()
            self.assertEqual(desk.say("lot " + shown(lot)), "ok")
            self.assertEqual(desk.say("lot"), shown(lot))
            self.assertEqual(read(desk.say("lot")), lot)

    def test_nothing_behind_the_blank(self):
        desk = said("put 3,4")
        self.assert_unchanged(desk, NoText, "lot ")
        self.assertEqual(desk.say("back"), "ok")
        self.assertEqual(desk.say("lot"), "0,0")

    def test_a_text_that_writes_none(self):
        desk = said("lot 1,1 2,2")
        for text in NOT_WRITTEN:
            self.assert_unchanged(desk, NoText, "lot " + text)
        for text in ("lot", "put 0,0", "fars", " lot 0,0", "lot 0,0"):
            self.assert_unchanged(desk, NoText, "lot " + text)
        desk.say("back")
        self.assert_refused(NoDeed, desk.say, "back")

    def test_the_same_lot_is_a_deed_too(self):
        desk = said("lot 0,0", "lot 0,0")
        desk.say("back")
        desk.say("back")
        self.assert_refused(NoDeed, desk.say, "back")


class PutAndTakeTest(DeskCase):

    def test_put(self):
        desk = Desk()
        self.assertEqual(desk.say("put 3,4"), "ok")
        self.assertEqual(desk.say("lot"), "0,0 3,4")
        self.assertEqual(desk.say("put -1,7"), "ok")
        self.assertEqual(desk.say("lot"), "-1,7 0,0 3,4")
        self.assertEqual(desk.say("put 1000,-1000"), "ok")
        self.assertEqual(desk.say("put 0,-1"), "ok")
        self.assertEqual(desk.say("lot"), "-1,7 0,-1 0,0 3,4 1000,-1000")

    def test_a_point_in_the_lot(self):
        desk = said("put 3,4")
        for point in ("0,0", "3,4"):
            self.assert_unchanged(desk, NoDeed, "put " + point)

    def test_one_more_to_forty(self):
        desk = said("lot " + shown(row(39)))
        self.assertEqual(desk.say("put 39,0"), "ok")
        before = told(desk)
        for point in ("40,0", "-1,0", "0,1", "1000,1000"):
            with self.assertRaises(TooMany) as caught:
                desk.say("put " + point)
            self.assertIs(type(caught.exception), TooMany)
            self.assertEqual((caught.exception.many, caught.exception.most), (41, 40))
            self.assertEqual(told(desk), before)
        self.assertEqual(desk.say("back"), "ok")
        self.assertEqual(desk.say("lot"), shown(row(39)))

    def test_in_a_lot_of_forty(self):
        desk = said("lot " + shown(BOARD))
        for x, y in BOARD:
            self.assert_refused(NoDeed, desk.say, f"put {x},{y}")
        for word in NO_POINTS:
            self.assert_refused(NoPoint, desk.say, "put " + word)
        self.assertEqual(desk.say("take 0,0"), "ok")
        self.assertEqual(desk.say("put 0,0"), "ok")
        self.assertEqual(desk.say("lot"), shown(BOARD))

    def test_take(self):
        desk = said("lot 0,0 0,1 1,0 1,1")
        self.assertEqual(desk.say("take 0,1"), "ok")
        self.assertEqual(desk.say("lot"), "0,0 1,0 1,1")
        self.assertEqual(desk.say("take 1,1"), "ok")
        self.assertEqual(desk.say("take 0,0"), "ok")
        self.assertEqual(desk.say("lot"), "1,0")

    def test_take_the_only_one(self):
        self.assert_unchanged(Desk(), NoDeed, "take 0,0")
        self.assert_unchanged(said("lot 5,5"), NoDeed, "take 5,5")

    def test_take_one_that_is_not_in_it(self):
        desk = said("lot 0,0 0,1")
        for point in ("1,0", "0,2", "-1,0", "1000,1000"):
            self.assert_unchanged(desk, NoDeed, "take " + point)
        self.assert_unchanged(Desk(), NoDeed, "take 1,1")

    def test_words_that_are_no_points(self):
        for word in NO_POINTS:
            for first in ("put", "take", "fits"):
                for desk in (Desk(), said("lot 0,0 0,1"), said("lot 0,0 1,0 2,0")):
                    self.assert_unchanged(desk, NoPoint, f"{first} {word}")


class MoveTest(DeskCase):

    def test_move(self):
        desk = said("lot 0,0 0,1 1,0 1,1")
        self.assertEqual(desk.say("move 2 -5"), "ok")
        self.assertEqual(desk.say("lot"), "2,-5 2,-4 3,-5 3,-4")
        self.assertEqual(desk.say("move 0 0"), "ok")
        self.assertEqual(desk.say("lot"), "2,-5 2,-4 3,-5 3,-4")

    def test_just_as_far_as_may_be_and_one_further(self):
        for far, beyond in (("1000 1000", "1001 0"), ("-1000 -1000", "0 -1001"), ("1000 -1000", "0 1001"),
                            ("-1000 0", "-1001 0")):
            desk = Desk()
            self.assert_unchanged(desk, NoPoint, "move " + beyond)
            self.assertEqual(desk.say("move " + far), "ok")
            self.assertEqual(desk.say("lot"), far.replace(" ", ","))
        desk = said("lot " + shown(CORNERS))
        for line in ("move 1 0", "move -1 0", "move 0 1", "move 0 -1"):
            self.assert_unchanged(desk, NoPoint, line)

    def test_numbers_of_thirty_figures_and_of_thirty_one(self):
        desk = said("put 3,4")
        for number in (THIRTY, "-" + THIRTY, "1" + "0" * 29):
            self.assert_unchanged(desk, NoPoint, f"move {number} 0")
            self.assert_unchanged(desk, NoPoint, f"move 0 {number}")
            self.assert_unchanged(desk, NoPoint, f"move {number} {number}")
        for number in (THIRTY + "9", "-" + THIRTY + "9", "1" + "0" * 30):
            self.assert_unchanged(desk, NoNumber, f"move {number} 0")
            self.assert_unchanged(desk, NoNumber, f"move 0 {number}")

    def test_words_that_are_no_numbers(self):
        desk = said("put 3,4")
        for word in NO_NUMBERS:
            self.assert_unchanged(desk, NoNumber, f"move {word} 1")
            self.assert_unchanged(desk, NoNumber, f"move 1 {word}")
            self.assert_unchanged(desk, NoNumber, f"move {word} {word}")
            # A point would be none, too, but the words come ahead.
            self.assert_unchanged(desk, NoNumber, f"move 5000 {word}")
            self.assert_unchanged(desk, NoNumber, f"move {word} 5000")

    def test_turn_and_mirror(self):
        desk = said("lot 0,0 0,3 2,-1")
        self.assertEqual(desk.say("turn"), "ok")
        self.assertEqual(desk.say("lot"), "-3,0 0,0 1,2")
        self.assertEqual(desk.say("mirror"), "ok")
        self.assertEqual(desk.say("lot"), "0,-3 0,0 2,1")


class BackTest(DeskCase):

    def test_behind_each_deed(self):
        for line in ("lot 5,5 6,6", "put 9,9", "take 0,1", "move 1 2", "move 0 0", "turn", "mirror", "lot 0,0 0,1 1,0"):
            desk = said("lot 0,0 0,1 1,0")
            before = told(desk)
            self.assertEqual(desk.say(line), "ok")
            self.assertEqual(desk.say("back"), "ok")
            self.assertEqual(told(desk), before)
            desk.say("back")
            self.assertEqual(desk.say("lot"), "0,0")
            self.assert_refused(NoDeed, desk.say, "back")

    def test_a_deed_that_changes_nothing_stands_too(self):
        desk = said("turn", "mirror", "move 0 0", "lot 0,0")
        for time in range(4):
            self.assertEqual(desk.say("lot"), "0,0")
            self.assertEqual(desk.say("back"), "ok")
        self.assert_unchanged(desk, NoDeed, "back")

    def test_none_left(self):
        desk = Desk()
        self.assert_unchanged(desk, NoDeed, "back")
        self.assert_unchanged(desk, NoDeed, "back")
        desk.say("put 1,1")
        desk.say("back")
        self.assert_unchanged(desk, NoDeed, "back")
        self.assertEqual(desk.say("put 1,1"), "ok")

    def test_behind_a_refused_deed(self):
        desk = said("put 1,1", "put 2,2")
        for kind, line in ((NoDeed, "put 1,1"), (NoDeed, "take 7,7"), (NoPoint, "move 5000 0"), (NoText, "lot "),
                           (NoNumber, "move x 1"), (NoPoint, "put x"), (NoLine, "turn "), (Alike, "fits 5,5")):
            self.assert_refused(kind, desk.say, line)
        self.assertEqual(desk.say("back"), "ok")
        self.assertEqual(desk.say("lot"), "0,0 1,1")

    def test_behind_a_question(self):
        desk = said("put 1,1", "put 2,2")
        for question in QUESTIONS:
            desk.say(question)
        desk.say("back")
        self.assertEqual(desk.say("lot"), "0,0 1,1")

    def test_behind_back(self):
        desk = said("put 1,1", "put 2,2", "put 3,3")
        desk.say("back")
        self.assertEqual(desk.say("lot"), "0,0 1,1 2,2")
        desk.say("back")
        self.assertEqual(desk.say("lot"), "0,0 1,1")
        desk.say("put 4,4")
        desk.say("back")
        self.assertEqual(desk.say("lot"), "0,0 1,1")
        desk.say("back")
        self.assertEqual(desk.say("lot"), "0,0")
        self.assert_refused(NoDeed, desk.say, "back")

    def test_a_long_row_led_back_and_told_anew(self):
        lines = []
        for k in range(300):
            lines += [f"put {k % 20 + 1},{k % 7}", "turn", f"move {k % 5 - 2} {k % 3 - 1}", "mirror"]
            if k % 20 == 19:
                lines.append("lot 0,0")
        desk = Desk()
        states = []
        done = []
        for line in lines:
            before = desk.say("lot")
            try:
                desk.say(line)
            except (NoDeed, TooMany):
                self.assertEqual(desk.say("lot"), before)
            else:
                states.append(before)
                done.append(line)
        self.assertGreater(len(done), 1000)
        end = told(desk)
        for before in reversed(states):
            self.assertEqual(desk.say("back"), "ok")
            self.assertEqual(desk.say("lot"), before)
        self.assert_refused(NoDeed, desk.say, "back")
        for line in done:
            self.assertEqual(desk.say(line), "ok")
        self.assertEqual(told(desk), end)


class QuestionTest(DeskCase):

    def test_ordinary(self):
        desk = said("lot 0,0 0,1 1,0 1,1")
        self.assertEqual(told(desk), ["0,0 0,1 1,0 1,1", "1 2", "2", "4", "0", "4", "no", "yes", "yes", "2", "0"])
        desk = said("lot 0,0 1,0 3,0")
        self.assertEqual(told(desk), ["0,0 1,0 3,0", "1 4 9", "3", "1", "0", "0", "yes", "no", "no", "1", "2"])

    def test_all_lots(self):
        for lot in LOTS + (unlike_forty(), bent(30, 9)):
            desk = said("lot " + shown(lot))
            model = Model()
            model.say("lot " + shown(lot))
            for question in QUESTIONS:
                self.assertEqual(desk.say(question), model.say(question), (lot, question))

    def test_fars_of_one_point(self):
        self.assertEqual(Desk().say("fars"), "none")
        self.assertEqual(said("put 1,1").say("fars"), "2")
        self.assertEqual(said("lot 7,7").say("fars"), "none")

    def test_often(self):
        desk = said("lot 0,0 0,1 1,0 1,1")
        for number, wanted in (("1", "4"), ("2", "2"), ("0", "0"), ("3", "0"), ("-1", "0"), (THIRTY, "0"),
                               ("-" + THIRTY, "0")):
            self.assertEqual(desk.say("often " + number), wanted)
        for word in NO_NUMBERS:
            self.assert_unchanged(desk, NoNumber, "often " + word)
            self.assert_unchanged(Desk(), NoNumber, "often " + word)

    def test_fits(self):
        desk = said("lot 0,0 1,0 3,0")
        self.assertEqual(desk.say("fits 7,0"), "yes")
        self.assertEqual(desk.say("fits 5,0"), "no")
        self.assertEqual(desk.say("fits 0,1"), "no")
        self.assertEqual(desk.say("fits 0,0"), "no")
        self.assertEqual(Desk().say("fits 5,5"), "yes")
        self.assertEqual(Desk().say("fits 0,0"), "no")

    def test_fits_of_a_lot_that_is_not_unlike(self):
        for lot in LOTS:
            if not plain_unlike(lot):
                desk = said("lot " + shown(lot))
                with self.assertRaises(Alike) as caught:
                    desk.say("fits 0,0")
                error = caught.exception
                self.assertIs(type(error), Alike)
                self.assertEqual((error.one, error.two, error.three, error.four), first_like(lot))
                self.assert_refused(NoPoint, desk.say, "fits 0,1001")
                self.assert_refused(NoPoint, desk.say, "fits x")
                self.assertEqual(desk.say("lot"), shown(lot))

    def test_the_numbers_of_the_bar(self):
        for lot in LOTS:
            desk = said("lot " + shown(lot))
            self.assertEqual(desk.say("bar"), str(bar(len(lot))))
            self.assertEqual(desk.say("spare"), str(spare(lot)))

    def test_they_change_nothing(self):
        desk = said("put 3,4", "put 6,8")
        before = told(desk)
        for time in range(3):
            self.assertEqual(told(desk), before)
        desk.say("back")
        desk.say("back")
        self.assert_refused(NoDeed, desk.say, "back")

    def test_answers_are_texts(self):
        desk = said("lot 0,0 1,0 3,0")
        for line in QUESTIONS + ("fits 7,0", "put 9,9", "take 9,9", "move 1 1", "turn", "mirror", "lot 1,1", "back"):
            self.assertIs(type(desk.say(line)), str)


class LineTest(DeskCase):

    def test_no_lines(self):
        for line in NO_LINES:
            self.assert_unchanged(Desk(), NoLine, line)
            self.assert_unchanged(said("lot 0,0 0,1 1,0 1,1", "turn"), NoLine, line)

    def test_a_blank_more_at_any_place(self):
        for line in QUESTIONS + ("put 3,4", "take 0,0", "move 1 2", "turn", "mirror", "back", "fits 3,4"):
            desk = said("put 1,1")
            for at in range(len(line) + 1):
                broken = line[:at] + " " + line[at:]
                # A blank within a word behind the first makes a word more; behind "lot" it makes a deed.
                kind = NoText if broken.startswith("lot ") else NoLine
                self.assert_unchanged(desk, kind, broken)

    def test_a_line_feed_is_a_sign_of_its_word(self):
        desk = said("put 1,1")
        for line, kind in (("put 3,4", NoPoint), ("take 1,1", NoPoint), ("fits 3,4", NoPoint), ("often 1", NoNumber),
                           ("move 1 2", NoNumber)):
            first = line.index(" ")
            for at in range(len(line) + 1):
                self.assert_unchanged(desk, kind if at > first else NoLine, line[:at] + "\n" + line[at:])
        for line in ("lot", "fars", "many", "turn", "back"):
            for at in range(len(line) + 1):
                self.assert_unchanged(desk, NoLine, line[:at] + "\n" + line[at:])
        self.assert_unchanged(desk, NoText, "lot \n")
        self.assert_unchanged(desk, NoText, "lot 0,0\n")
        self.assert_unchanged(desk, NoLine, "put\n3,4")
        # A line feed alone is a word.
        self.assert_unchanged(desk, NoPoint, "put \n")
        self.assert_unchanged(desk, NoNumber, "move \n \n")
        self.assert_unchanged(desk, NoLine, "turn \n")

    def test_things_of_other_kinds(self):
        desk = said("put 1,1")
        for thing in ODD_THINGS + (
            0, 1, BIG, -BIG, ["lot"], ("lot",), ["put", "3,4"], {"lot": "0,0"}, b"lot", ((0, 0),), [["lot"]],
            (((((((((("lot",),),),),),),),),),),
        ):
            if not isinstance(thing, str):
                self.assert_unchanged(desk, NoLine, thing)

    def test_no_line_comes_ahead_of_all_else(self):
        desk = said("lot " + shown(BOARD))
        for line in ("put x ", "put  x", "put x y", "put 0,0 0,0", "take 9,9 ", "take x x", "move x", "move x y z",
                     "move 5000 ", "often x y", "often x ", "fits 0,0 x", "fits x ", "back 1", "put 100,100 ",
                     "Put x", "moves x y"):
            self.assert_unchanged(desk, NoLine, line)
        self.assert_unchanged(Desk(), NoLine, "back ")
        self.assert_unchanged(Desk(), NoLine, "take 0,0 ")

    def test_of_lot_and_a_blank_nothing_behind_is_looked_at_so(self):
        desk = Desk()
        for line in ("lot ", "lot  ", "lot  0,0", "lot 0,0 ", "lot lot", "lot x y z", "lot \n", "lot 0,0  1,1"):
            self.assert_unchanged(desk, NoText, line)

    def test_what_is_handed_in_stays_as_it_was(self):
        for thing in (["lot"], {"a": ["lot"]}, (["put"], {"b": 2})):
            kept = copy.deepcopy(thing)
            self.assert_refused(NoLine, Desk().say, thing)
            self.assertEqual(thing, kept)


class TwoDesksTest(DeskCase):

    def test_used_by_turns(self):
        one, other = Desk(), Desk()
        one.say("put 1,1")
        self.assertEqual(other.say("lot"), "0,0")
        other.say("lot 5,5 6,6")
        one.say("move 2 2")
        self.assertEqual((one.say("lot"), other.say("lot")), ("2,2 3,3", "5,5 6,6"))
        other.say("back")
        self.assert_refused(NoDeed, other.say, "back")
        self.assertEqual((one.say("lot"), other.say("lot")), ("2,2 3,3", "0,0"))
        one.say("back")
        one.say("back")
        self.assertEqual(one.say("lot"), "0,0")
        self.assertEqual(Desk().say("lot"), "0,0")

    def test_the_same_deeds_the_same_answers(self):
        lines = ("put 1,1", "turn", "put 4,4", "move 3 -2", "take 3,-2", "mirror", "put 0,5")
        self.assertEqual(told(said(*lines)), told(said(*lines)))
        # Deeds that were undone, refusals and questions in between are as if they had not been told.
        desk = Desk()
        for line in lines:
            desk.say("put 77,77")
            told(desk)
            self.assert_refused(NoDeed, desk.say, "put 77,77")
            desk.say("turn")
            desk.say("back")
            desk.say("back")
            desk.say(line)
        self.assertEqual(told(desk), told(said(*lines)))

    def test_the_order_of_the_deeds(self):
        self.assertEqual(said("put 1,2", "turn", "move 1 0").say("lot"), "-1,1 1,0")
        self.assertEqual(said("put 1,2", "move 1 0", "turn").say("lot"), "-2,2 0,1")


class ModelTest(unittest.TestCase):

    def line(self, chance):
        """A line, right or nearly so."""
        def number():
            return chance.choice(["0", "1", "-1", "2", "3", "-2", "-4", "5"] + chance.sample(NO_NUMBERS, 1)
                                 + [str(chance.randint(-1100, 1100))])

        def point():
            near = f"{chance.randint(-3, 3)},{chance.randint(-3, 3)}"
            return chance.choice([near] * 12 + chance.sample(NO_POINTS, 1) + ["1000,-1000"])

        word = chance.choice(("put",) * 12 + ("take",) * 5 + ("move",) * 4 + ("back",) * 5 + (
            "turn", "mirror", "lot", "fars", "many", "often", "threes", "unlike", "round", "square", "fits", "fits",
            "bar", "spare", "whole", "whole", "none"))
        if word in ("put", "take", "fits"):
            return f"{word} {point()}"
        if word == "often":
            return f"often {number()}"
        if word == "move":
            return f"move {number()} {number()}"
        if word == "whole":
            points = [(x, y) for x in range(-3, 4) for y in range(-3, 4)]
            lot = sorted(chance.sample(points, chance.choice((1, 2, 3, 4, 5, 9, 30, 39, 40, 41))))
            return "lot " + chance.choice([" ".join(f"{x},{y}" for x, y in lot)] * 6 + list(NOT_WRITTEN[:1]))
        if word == "none":
            return chance.choice(NO_LINES)
        return word

    def test_many_rows_of_lines(self):
        seen = set()
        for seed in range(40):
            chance = random.Random(seed)
            desk, model = Desk(), Model()
            for time in range(100):
                line = self.line(chance)
                wanted = model.say(line)
                try:
                    got = desk.say(line)
                except ValueError as error:
                    got = type(error)
                self.assertEqual(got, wanted, line)
                seen.add(wanted)
            self.assertEqual(desk.say("lot"), model.say("lot"))
        self.assertTrue({"ok", "yes", "no", NoLine, NoText, NoPoint, NoNumber, NoDeed, Alike, TooMany} <= seen)

    def test_the_models_own_numbers(self):
        self.assertEqual([plain_number(word) for word in ("0", "-7", "10", THIRTY)], [0, -7, 10, int(THIRTY)])
        for word in NO_NUMBERS:
            self.assertIsNone(plain_number(word), word)
        for word in NO_POINTS:
            self.assertIsNone(plain_point(word), word)


class OwnTest(unittest.TestCase):

    def test_arguments_stand_as_the_interface_says(self):
        self.assertEqual(list(inspect.signature(Desk).parameters), [])
        self.assertEqual(list(inspect.signature(Desk.say).parameters), ["self", "line"])

    def test_far_apart_points(self):
        desk = said("lot " + shown(CORNERS))
        self.assertEqual(desk.say("fars"), " ".join(map(str, sorted({plain_far(*two) for two in combinations(CORNERS, 2)}))))
        self.assertEqual(desk.say("square"), "yes")
        self.assertEqual(said("lot " + shown(SQUARE[:3])).say("square"), "no")


if __name__ == "__main__":
    unittest.main()
