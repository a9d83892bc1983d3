"""What the document promises over the whole program."""

import copy
import importlib
import inspect
import os
import random
import subprocess
import sys
import unittest
from pathlib import Path

from fewdistances import errors
from fewdistances.errors import Alike, FarError, NoCircle, NoFars, NoLine, NoLot, NoMarks, NoNumber, NoPoint, NoText
from tests.samples import SQUARE, row

ROOT = Path(__file__).resolve().parent.parent

# Each name of the interface: where it stands, and of each place a name, a thing that may stand there, and the
# refusal that is due of one that may not (None where it is of anything).
LOT = ("lot", row(3), NoLot)
UNLIKE_LOT = ("lot", ((0, 0), (1, 0), (3, 0)), NoLot)
MARKS = ("marks", (0, 1, 3), NoMarks)
THING = ("thing", 5, None)


def number(name, some=2):
    return (name, some, NoNumber)


def point(name, some=(1, 0)):
    return (name, some, NoPoint)


W, H, N = number("w"), number("h"), number("n")

INTERFACE = {
    "points": {
        "is_point": [THING], "is_lot": [THING], "far_of": [point("one"), point("other")], "fars": [LOT],
        "far_table": [LOT],
    },
    "counts": {
        "many_fars": [LOT], "often": [LOT, number("number")], "most_often": [LOT], "singles": [LOT],
        "from_point": [LOT, point("point")], "even_threes": [LOT], "first_even": [LOT],
    },
    "moves": {
        "moved": [LOT, number("across"), number("up")], "turned_about": [LOT], "mirrored": [LOT],
    },
    "few": {name: [W, H, N] for name in ("fewest", "few_lots", "first_few", "most_fars", "many_lots", "first_many")},
    "unlike": {
        "is_likeness": [LOT, THING], "first_like": [LOT], "fits": [UNLIKE_LOT, point("point")], "filled": [W, H],
        "most_unlike": [W, H], "unlike_lots": [W, H],
    },
    "grids": {"grid_often": [W, H, number("number")], "many_grid": [W, H], "greatest_often": [W, H]},
    "sums": {"sum_ways": [number("number")], "is_sum": [number("number")], "on_circle": [number("number")]},
    "circles": {
        "circle": [number("number")], "round_of": [point("one", (0, 0)), point("two"), point("three", (0, 1))],
        "is_round": [LOT], "round_fours": [LOT], "first_round": [LOT], "hub": [LOT],
    },
    "marks": {
        "are_marks": [THING], "gaps": [MARKS], "is_even": [MARKS], "first_twice": [MARKS], "shortest": [N],
        "shortest_marks": [N], "unlike_by": [MARKS, number("m")], "as_lot": [MARKS],
    },
    "two": {
        "two_lots": [W, H, N], "is_square": [LOT], "many_squares": [W, H],
        "square_at": [point("one", (0, 0)), point("other")],
    },
    "bars": {
        "by_hull": [N], "pair_bound": [N], "by_pairs": [N], "bar": [N], "spare": [LOT],
        "most_by_circles": [N, number("number")], "can_have": [N, ("some", (1, 2), NoFars)],
    },
    "texts": {"shown": [LOT], "read": [("text", "0,0 1,1", NoText)]},
}
# Refusals of things that are right each, but not together.
TOGETHER = {
    "from_point": {NoPoint}, "moved": {NoPoint}, "fits": {Alike}, "round_of": {NoCircle}, "hub": {NoLot},
    "square_at": {NoPoint},
}
PLACES = [(stem, name, places) for stem, names in INTERFACE.items() for name, places in names.items()]


def action_of(stem, name):
    return getattr(importlib.import_module(f"fewdistances.{stem}"), name)


SIGNS = [chr(code) for code in range(32, 127) if code != 37] + ["\n"]


def anything(chance, depth):
    """A thing as 0.2 tells of, the same each time of the same chance."""
    kind = chance.randrange(12 if depth > 1 else 7)
    if kind == 0:
        return chance.choice((True, False, None))
    if kind == 1:
        return chance.choice((0, 1, 2, 3, 5, 1000, 1001, -1, -1000))
    if kind == 2:
        return chance.choice((1, -1)) * chance.randrange(10 ** chance.randrange(1, 31))
    if kind == 3:
        return "".join(chance.choice(SIGNS) for time in range(chance.randrange(20)))
    if kind == 4:
        return " ".join(f"{chance.randrange(-3, 3)},{chance.randrange(3)}" for time in range(chance.randrange(1, 4)))
    if kind in (5, 6):
        return (chance.randrange(-2, 3), chance.randrange(-2, 3)) if depth > 1 else chance.randrange(5)
    if kind in (7, 8, 9):
        return tuple(anything(chance, depth - 1) for time in range(chance.randrange(4)))
    if kind == 10:
        return [anything(chance, depth - 1) for time in range(chance.randrange(4))]
    return {chance.choice((0, 1, "a", (0, 0), None)): anything(chance, depth - 1) for time in range(chance.randrange(3))}


def some_things(many):
    chance = random.Random(2026)
    things = [anything(chance, chance.randrange(1, 11)) for time in range(many)]
    deep = 7
    for time in range(9):
        deep = (deep,)
    return things + [deep, [[[[[[[[[1]]]]]]]]], "x" * 600, "0,0 " * 150, " " * 600, "\n" * 600, 10 ** 30 - 1, 1 - 10 ** 30]


THINGS = some_things(700)


class InterfaceTest(unittest.TestCase):

    def test_each_name_stands_in_its_module(self):
        for stem, name, places in PLACES:
            self.assertEqual(list(inspect.signature(action_of(stem, name)).parameters), [place[0] for place in places])
        desk = action_of("desk", "Desk")
        self.assertIs(inspect.isclass(desk), True)
        self.assertEqual(list(inspect.signature(desk).parameters), [])

    def test_what_may_stand_there_is_answered(self):
        for stem, name, places in PLACES:
            action_of(stem, name)(*[place[1] for place in places])
        self.assertEqual(action_of("desk", "Desk")().say("lot"), "0,0")

    def test_refusals_are_straight_under_far_error(self):
        kinds = [kind for kind in vars(errors).values() if inspect.isclass(kind) and kind is not FarError]
        self.assertEqual(len(kinds), 11)
        for kind in kinds:
            self.assertEqual(kind.__bases__, (FarError,))
        self.assertEqual(FarError.__bases__, (ValueError,))


class AnythingTest(unittest.TestCase):

    def told_or_refused(self, action, things):
        """Either what is told, or the class of the refusal; any other error goes on."""
        kept = copy.deepcopy(things)
        try:
            answer = action(*things)
        except FarError as error:
            answer = type(error)
        self.assertEqual(repr(things), repr(kept))
        return answer

    def test_of_anything_at_each_place(self):
        for stem, name, places in PLACES:
            action = action_of(stem, name)
            for at, (label, right, kind) in enumerate(places):
                allowed = TOGETHER.get(name, set()) | {kind}
                for thing in THINGS:
                    things = [place[1] for place in places]
                    things[at] = thing
                    answer = self.told_or_refused(action, things)
                    if kind is None:
                        self.assertIn(answer, (True, False))
                        self.assertIs(type(answer), bool)
                    elif inspect.isclass(answer):
                        self.assertIn(answer, allowed, (name, things))

    def test_the_left_one_of_two_wrong_things(self):
        for stem, name, places in PLACES:
            action = action_of(stem, name)
            for at, (label, right, kind) in enumerate(places):
                for to in range(at + 1, len(places)):
                    if None not in (kind, places[to][2]):
                        for wrong in (None, True, "x", [], {}, ()):
                            for other in (None, False, "y", [0], {"a": 1}, ()):
                                things = [place[1] for place in places]
                                things[at], things[to] = wrong, other
                                self.assertIs(self.told_or_refused(action, things), kind, (name, things))

    def test_of_anything_said_to_a_desk(self):
        desk = action_of("desk", "Desk")()
        for thing in THINGS:
            if isinstance(thing, str):
                self.told_or_refused(desk.say, [thing])
            else:
                self.assertIs(self.told_or_refused(desk.say, [thing]), NoLine)
        self.assertEqual(desk.say("lot"), "0,0")

    def test_the_things_are_of_all_kinds(self):
        kinds = {type(thing) for thing in THINGS}
        self.assertEqual(kinds, {int, bool, type(None), str, tuple, list, dict})


class SameAnswerTest(unittest.TestCase):

    def test_asked_in_another_order(self):
        kept = [repr(action_of(stem, name)(*[place[1] for place in places])) for stem, name, places in PLACES]
        again = [repr(action_of(stem, name)(*[place[1] for place in places])) for stem, name, places in reversed(PLACES)]
        self.assertEqual(again[::-1], kept)

    def test_lists_told_are_the_askers_own(self):
        lists = 0
        for stem, name, places in PLACES:
            action = action_of(stem, name)
            things = [place[1] for place in places]
            first = action(*things)
            if isinstance(first, list):
                lists += 1
                kept = list(first)
                first.append("mine")
                self.assertEqual(action(*things), kept)
                first.clear()
                self.assertEqual(action(*things), kept)
        self.assertEqual(lists, 11)

    def test_nothing_hangs_on_chance(self):
        code = ("from tests.test_whole import PLACES, action_of\n"
                "print([action_of(stem, name)(*[place[1] for place in places]) for stem, name, places in PLACES])\n"
                "desk = action_of('desk', 'Desk')()\n"
                "print([desk.say(line) for line in ('put 3,4', 'put 5,0', 'turn', 'fars', 'lot', 'back', 'lot')])\n")
        told = set()
        for seed in ("0", "1", "77"):
            around = dict(os.environ, PYTHONHASHSEED=seed, PYTHONPATH=str(ROOT), PYTHONDONTWRITEBYTECODE="1")
            run = subprocess.run([sys.executable, "-c", code], cwd=ROOT, env=around, capture_output=True, text=True)
            self.assertEqual(run.returncode, 0, run.stderr)
            told.add(run.stdout)
        self.assertEqual(len(told), 1)

    def test_what_was_told_may_be_handed_in_again(self):
        ask = action_of
        for lot in (
            ask("moves", "moved")(SQUARE, 1, 2), ask("moves", "turned_about")(SQUARE), ask("few", "first_few")(4, 4, 5),
            ask("few", "first_many")(3, 4, 4), ask("unlike", "filled")(5, 5), ask("unlike", "unlike_lots")(4, 4)[0],
            ask("circles", "first_round")(SQUARE), ask("marks", "as_lot")(ask("marks", "shortest_marks")(5)[2]),
            ask("two", "two_lots")(5, 5, 4)[7], ask("two", "square_at")((0, 0), (3, 1)),
            ask("texts", "read")("0,0 1,1"), tuple(ask("circles", "circle")(25)),
        ):
            self.assertIs(ask("points", "is_lot")(lot), True)
            desk = ask("desk", "Desk")()
            self.assertEqual(desk.say("lot " + ask("texts", "shown")(lot)), "ok")
            self.assertEqual(ask("texts", "read")(desk.say("lot")), lot)
            self.assertIs(ask("bars", "can_have")(len(lot), tuple(ask("points", "fars")(lot))), True)
            self.assertGreaterEqual(ask("bars", "spare")(lot), 0)
            like = ask("unlike", "first_like")(lot)
            if like is not None:
                self.assertIs(ask("unlike", "is_likeness")(lot, like), True)


if __name__ == "__main__":
    unittest.main()
