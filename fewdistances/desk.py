"""A desk that keeps a lot, and is told lines."""

from fewdistances.bars import bar, spare
from fewdistances.circles import is_round
from fewdistances.counts import even_threes, many_fars, often
from fewdistances.errors import NoDeed, NoLine, NoNumber, NoPoint, TooMany
from fewdistances.moves import mirrored, moved, turned_about
from fewdistances.points import MOST_POINTS, fars
from fewdistances.texts import number_in, point_in, read, shown
from fewdistances.two import is_square
from fewdistances.unlike import first_like, fits

FIRST_LOT = ((0, 0),)
LOT_AND_BLANK = "lot "


def point_of(word):
    """Tell the point that a word of a line writes."""
    point = point_in(word)
    if point is None:
        raise NoPoint("the word writes no point")
    return point


def number_of(word):
    """Tell the number that a word of a line writes."""
    number = number_in(word)
    if number is None:
        raise NoNumber("the word writes no number")
    return number


def put(lot, values):
    """Tell the lot with a point more."""
    if values[0] in lot:
        raise NoDeed("the point is in the lot")
    if len(lot) >= MOST_POINTS:
        raise TooMany(len(lot) + 1, MOST_POINTS)
    return tuple(sorted(lot + (values[0],)))


def take(lot, values):
    """Tell the lot with a point fewer."""
    if values[0] not in lot:
        raise NoDeed("the point is not in the lot")
    if len(lot) == 1:
        raise NoDeed("the point is the only one")
    return tuple([point for point in lot if point != values[0]])


def move(lot, values):
    """Tell the lot moved by two numbers."""
    return moved(lot, values[0], values[1])


def turn(lot, values):
    """Tell the lot turned."""
    return turned_about(lot)


def mirror(lot, values):
    """Tell the lot mirrored."""
    return mirrored(lot)


def yes_or_no(truth):
    """Tell a truth as a text."""
    return "yes" if truth else "no"


def tell_lot(lot, values):
    """Answer how the lot is written."""
    return shown(lot)


def tell_fars(lot, values):
    """Answer which fars the lot has."""
    return " ".join([str(far) for far in fars(lot)]) or "none"


def tell_many(lot, values):
    """Answer how many unlike fars the lot has."""
    return str(many_fars(lot))


def tell_often(lot, values):
    """Answer how many pairs have a number as their far."""
    return str(often(lot, values[0]))


def tell_threes(lot, values):
    """Answer how many even threes the lot has."""
    return str(even_threes(lot))


def tell_unlike(lot, values):
    """Answer whether the lot is unlike."""
    return yes_or_no(first_like(lot) is None)


def tell_round(lot, values):
    """Answer whether the lot lies on one circle."""
    return yes_or_no(is_round(lot))


def tell_square(lot, values):
    """Answer whether the lot is a square."""
    return yes_or_no(is_square(lot))


def tell_fits(lot, values):
    """Answer whether a point fits the lot."""
    return yes_or_no(fits(lot, values[0]))


def tell_bar(lot, values):
    """Answer how many unlike fars so many points have at least."""
    return str(bar(len(lot)))


def tell_spare(lot, values):
    """Answer how many more unlike fars the lot has."""
    return str(spare(lot))


# Of each first word: what the words behind it write, a point (P) or a number (N) each.
FORMS = {
    "put": "P", "take": "P", "move": "NN", "turn": "", "mirror": "", "back": "",
    "lot": "", "fars": "", "many": "", "often": "N", "threes": "", "unlike": "", "round": "", "square": "",
    "fits": "P", "bar": "", "spare": "",
}
DEEDS = {"put": put, "take": take, "move": move, "turn": turn, "mirror": mirror}
QUESTIONS = {
    "lot": tell_lot, "fars": tell_fars, "many": tell_many, "often": tell_often, "threes": tell_threes,
    "unlike": tell_unlike, "round": tell_round, "square": tell_square, "fits": tell_fits, "bar": tell_bar,
    "spare": tell_spare,
}


def words_of(line):
    """Tell the words of a line, but of one that tells a whole lot."""
    words = line.split(" ")
    # Two blanks together, or one ahead of all or behind all, leave an empty word.
    if "" in words or words[0] not in FORMS or len(words) != len(FORMS[words[0]]) + 1:
        raise NoLine("this is no line")
    return words


def values_of(words):
    """Tell what the words behind the first one write."""
    return [point_of(word) if kind == "P" else number_of(word) for kind, word in zip(FORMS[words[0]], words[1:])]


class Desk:
    """Keeps a lot, and all those that back may lead to."""

    def __init__(self):
        self.lots = [FIRST_LOT]

    def say(self, line):
        """Do the deed, or answer the question, that a line tells."""
        if not isinstance(line, str):
            raise NoLine("a text is needed")
        if line.startswith(LOT_AND_BLANK):
            return self.keep(read(line.removeprefix(LOT_AND_BLANK)))
        words = words_of(line)
        values = values_of(words)
        if words[0] == "back":
            return self.undo()
        if words[0] in DEEDS:
            deed = DEEDS[words[0]]
            return self.keep(deed(self.lots[-1], values))
        question = QUESTIONS[words[0]]
        return question(self.lots[-1], values)

    def keep(self, lot):
        """Keep the lot that a deed makes."""
        self.lots.append(lot)
        return "ok"

    def undo(self):
        """Go back to the lot ahead of the last deed that stands."""
        if len(self.lots) == 1:
            raise NoDeed("no deed stands")
        self.lots.pop()
        return "ok"
