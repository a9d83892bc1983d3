import copy
import inspect
import unittest

from fewdistances.errors import NoLot, NoText
from fewdistances.points import is_lot
from fewdistances.texts import read, shown
from tests.refusing import RefusalCase
from tests.samples import BIG, BOARD, CORNERS, LOTS, NOT_LOTS, ODD_THINGS, SQUARE, bent, row, unlike_forty

ONE = ((4, -4),)
ALL_LOTS = LOTS + (ONE, unlike_forty(), bent(30, 9), tuple((-1000, -k) for k in range(40, 0, -1)))
FORTY = " ".join(f"{k},0" for k in range(40))

NOT_WRITTEN = (
    "", " ", "  ", "\n", ",", ", ", " ,", ",,", "-", "-,-", "+", "0", "00", "a", "a,b", "0,", ",0", ",0,0", "0,0,",
    "0,,0", "0,0,0", "0 0", "0, 0", "0 ,0", "0,0,1,1", "0,0;1,1", "(0,0)", "(0, 0)", "((0, 0),)", "0.0,0", "0,0.",
    " 0,0", "0,0 ", "  0,0", "0,0  ", "0,0  1,1", " 0,0 1,1", "0,0 1,1 ", "0,0 , 1,1", "0,0,1,1 2,2",
    "-0,0", "0,-0", "-0,-0", "+1,0", "0,+1", "+0,0", "01,0", "0,01", "-01,0", "0,-01", "00,0", "0,00", "--1,0",
    "0,--1", "- 1,0", "-,1", "1,-", "1-,0", "1_0,0", "0,1_0", "0x1,0", "1e1,0", "one,two", "True,False", "None",
    "0,0\n", "\n0,0", "0\n,0", "0,\n0", "0,0\n1,1", "0,0\n 1,1", "0,0 \n1,1", "0,0 1,1\n", "0,0 1\n,1", "\n 0,0",
    "0,0\t1,1", "\t0,0", "0,0\r", "0,0\r\n",
    "1,0 0,0", "0,1 0,0", "0,0 0,0", "0,0 1,0 1,0", "0,0 2,0 1,0", "10,0 9,0", "-1,0 -2,0", "0,0 -1,0", "0,0 0,-1",
    "1001,0", "0,1001", "-1001,0", "0,-1001", "0,0 1001,0", "0,0 1,1001", f"{BIG},0", f"0,{BIG}", f"-{BIG},0",
    f"0,0 {BIG},0", "9" * 31 + ",0", "0," + "9" * 31, "9" * 300 + ",0", "0" * 300 + ",0", "0," * 200, " " * 600,
    FORTY + " 40,0", FORTY + " 41,7", FORTY + " ", FORTY + " 39,0", " ".join(f"{k},0" for k in range(100)),
    "lot 0,0", "0,0 lot", "none", "0,0 none", "\u0661,0", "\u00b2,0", "0\uff0c0", "0,0\u00a01,1",
)


class ShownTest(RefusalCase):

    def test_ordinary(self):
        self.assertEqual(shown(SQUARE), "0,0 0,1 1,0 1,1")
        self.assertEqual(shown(((0, 0), (3, 4))), "0,0 3,4")
        self.assertEqual(shown(row(5)), "0,0 1,0 2,0 3,0 4,0")

    def test_one_point(self):
        self.assertEqual(shown(((0, 0),)), "0,0")
        self.assertEqual(shown(ONE), "4,-4")

    def test_below_nought(self):
        self.assertEqual(shown(CORNERS), "-1000,-1000 -1000,1000 1000,-1000 1000,1000")
        self.assertEqual(shown(((-1, -2), (-1, 0), (0, -7))), "-1,-2 -1,0 0,-7")

    def test_forty_points(self):
        self.assertEqual(shown(row(40)), FORTY)
        self.assertEqual(len(shown(BOARD).split(" ")), 40)

    def test_all_lots(self):
        for lot in ALL_LOTS:
            told = shown(lot)
            self.assertIs(type(told), str)
            self.assertEqual(told, " ".join(",".join(map(str, point)) for point in lot))

    def test_refusals(self):
        for thing in NOT_LOTS + ("0,0",):
            self.assert_refused(NoLot, shown, thing)


class ReadTest(RefusalCase):

    def test_ordinary(self):
        self.assertEqual(read("0,0"), ((0, 0),))
        self.assertEqual(read("0,0 0,1 1,0 1,1"), SQUARE)
        self.assertEqual(read("-1,-2 -1,0 0,-7"), ((-1, -2), (-1, 0), (0, -7)))
        self.assertEqual(read("9,0 10,0"), ((9, 0), (10, 0)))
        self.assertEqual(read("-10,0 -9,0"), ((-10, 0), (-9, 0)))

    def test_edges(self):
        self.assertEqual(read("1000,-1000"), ((1000, -1000),))
        self.assertEqual(read("-1000,1000"), ((-1000, 1000),))
        self.assertEqual(read(FORTY), row(40))

    def test_what_shown_tells(self):
        for lot in ALL_LOTS:
            told = read(shown(lot))
            self.assertEqual(told, lot)
            self.assertIs(is_lot(told), True)
            self.assertEqual(shown(told), shown(lot))

    def test_texts_that_write_no_lot(self):
        for text in NOT_WRITTEN:
            self.assert_refused(NoText, read, text)

    def test_a_sign_more_at_any_place(self):
        for text in ("0,0", "-5,2 -5,3 0,0", "10,20 30,-40"):
            for at in range(len(text) + 1):
                for sign in ("\n", "+", ".", "x", "\t", "_", "(", "~", ";"):
                    self.assert_refused(NoText, read, text[:at] + sign + text[at:])

    def test_a_blank_or_a_comma_more_or_fewer(self):
        for text in ("0,0", "-5,2 -5,3 0,0", "10,20 30,-40"):
            for at in range(len(text) + 1):
                for sign in (" ", ","):
                    self.assert_refused(NoText, read, text[:at] + sign + text[at:])
                if text[at:at + 1] in (" ", ","):
                    self.assert_refused(NoText, read, text[:at] + text[at + 1:])

    def test_a_minus_or_a_nought_more(self):
        self.assertEqual(read("-5,2"), ((-5, 2),))
        for text in ("0,0", "-5,2 -5,3", "7,-8"):
            for at in range(len(text)):
                ahead = text[at - 1:at]
                if text[at].isdigit() and not ahead.isdigit():
                    self.assert_refused(NoText, read, text[:at] + "0" + text[at:])

    def test_things_of_other_kinds(self):
        for thing in tuple(some for some in ODD_THINGS if not isinstance(some, str) or some != "0,0") + (
            0, 1, BIG, (0, 0), ((0, 0),), SQUARE, ["0,0"], ("0,0",), {"0,0": 1}, b"0,0", [0, 0], True, None,
            (((((((((0,),),),),),),),),),
        ):
            self.assert_refused(NoText, read, thing)


class OwnTest(unittest.TestCase):

    def test_arguments_stand_as_the_interface_says(self):
        self.assertEqual(list(inspect.signature(shown).parameters), ["lot"])
        self.assertEqual(list(inspect.signature(read).parameters), ["text"])

    def test_the_same_question_has_the_same_answer(self):
        kept = [shown(lot) for lot in ALL_LOTS]
        for text in NOT_WRITTEN:
            with self.assertRaises(NoText):
                read(text)
        self.assertEqual([shown(lot) for lot in ALL_LOTS], kept)
        self.assertEqual([read(text) for text in kept], list(ALL_LOTS))

    def test_what_is_handed_in_stays_as_it_was(self):
        for thing in ([(0, 0), (1, 0)], ["0,0"], {"a": ["0,0"]}, ([1, 0], {"b": 2})):
            kept = copy.deepcopy(thing)
            with self.assertRaises(NoLot):
                shown(thing)
            with self.assertRaises(NoText):
                read(thing)
            self.assertEqual(thing, kept)


if __name__ == "__main__":
    unittest.main()
