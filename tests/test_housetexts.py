"""Point 12: texts of houses and of letterings, written and read."""

import copy
import re
import unittest

from letterhalls import housetexts as housetexts_file
from letterhalls.errors import BadHouse, BadLettering, BadLine, BadText
from letterhalls.housetexts import read_house, read_lettering, write_house, write_lettering
from tests import lettered, samples
from tests.cases import HouseCase

ALL = lettered.EVEN + [(house, lettering) for house, lettering, _ in lettered.UNEVEN]
NO_STRINGS = [value for value in samples.ANY_VALUES if not isinstance(value, str)] + [
    ["halls 1", "0 >"], ("halls 1\n0 >",), {"halls 1\n0 >": 0}, {0: "halls 1\n0 >"}, samples.deep(3000),
]
# Words that are no number, whatever number is due.
NO_NUMBERS = [
    "-1", "+1", "-0", "00", "01", "010", "1.0", "1e0", "0x1", "1_0", "one", "halls", "Halls", "a", ".", ",", "1,", ":",
    ">", "1>", "None", "True", "()", "[1]", "\t", "1\t", "\t1", "\r", "1\r", "1\x0b", "1\x0c", "1\xa0", "1\u2003",
    "1\x85", "1\u2028", "\u0661", "\uff11", "\u00b9", "\u00b2", "\u2460", "\u0967", "1\u0661", "9" * 5000, "0" * 5000,
]
WHOLE_TWO = "halls 2\n0 > 1\n1 > 0"
LETTERED_TWO = "halls 2\n0 0 > 1:5\n1 1 > 0:89"

# Texts of houses that cannot be read, with the line and the word that tell why.
WRONG_HOUSES = [
    # Void texts, and such of void lines alone.
    ("", 2, 1), (" ", 2, 1), ("   ", 2, 1), ("\n", 3, 1), (" \n  \n\n", 5, 1),
    # The first word of the first line.
    ("hall 2\n0 > 1\n1 > 0", 1, 1), ("Halls 2\n0 > 1\n1 > 0", 1, 1), ("halls2\n0 > 1\n1 > 0", 1, 1),
    ("2 halls\n0 > 1\n1 > 0", 1, 1), ("0 > 1\n1 > 0", 1, 1), ("\n\nhouse 2", 3, 1), (" \n halls: 2", 2, 1),
    ("halls\t2\n0 > 1\n1 > 0", 1, 1), ("\thalls 2\n0 > 1\n1 > 0", 1, 1), ("\ufeffhalls 2\n0 > 1\n1 > 0", 1, 1),
    # The number of halls.
    ("halls", 1, 2), ("halls ", 1, 2), ("halls\n2\n0 > 1\n1 > 0", 1, 2), ("\n halls  \n0 >", 2, 2),
    ("halls 0", 1, 2), ("halls 11", 1, 2), ("halls 02\n0 > 1\n1 > 0", 1, 2), ("halls -1", 1, 2), ("halls > 2", 1, 2),
    ("halls 2.0\n0 > 1\n1 > 0", 1, 2), ("halls 10000000000000000000000000000000000000000", 1, 2), ("halls halls", 1, 2),
    ("halls 2\r\n0 > 1\r\n1 > 0", 1, 2),
    # A third word of the first line.
    ("halls 2 2\n0 > 1\n1 > 0", 1, 3), ("halls 2 >\n0 > 1\n1 > 0", 1, 3), ("halls 2 0 > 1\n1 > 0", 1, 3),
    ("  halls   2   .  \n0 > 1\n1 > 0", 1, 3), ("halls 2 3 4 5", 1, 3), ("halls 11 3", 1, 2), ("hall 11 3", 1, 1),
    # The next hall.
    ("halls 2\n1 > 0\n0 > 1", 2, 1), ("halls 2\n0 > 1\n0 > 1", 3, 1), ("halls 2\n0 > 1\n2 > 0", 3, 1),
    ("halls 2\n00 > 1\n1 > 0", 2, 1), ("halls 2\n0 > 1\n01 > 0", 3, 1), ("halls 2\n0> 1\n1 > 0", 2, 1),
    ("halls 2\n> 1\n1 > 0", 2, 1), ("halls 2\nhalls 2", 2, 1), ("halls 2\n\n0 > 1\n\n\nx > 0", 6, 1),
    ("halls 2\n0: > 1\n1 > 0", 2, 1), ("halls 2\n0>1\n1>0", 2, 1), ("halls 2\n+0 > 1\n1 > 0", 2, 1),
    # The sign behind it.
    ("halls 2\n0\n1 > 0", 2, 2), ("halls 2\n0 1\n1 > 0", 2, 2), ("halls 2\n0 >> 1\n1 > 0", 2, 2),
    ("halls 2\n0 >1\n1 > 0", 2, 2), ("halls 2\n0 > 1\n1", 3, 2), ("halls 2\n0 < 1\n1 > 0", 2, 2),
    ("halls 2\n0 0 > 1\n1 > 0", 2, 2), ("halls 2\n0 : 1\n1 > 0", 2, 2), ("halls 1\n0", 2, 2), ("halls 1\n0 0", 2, 2),
    # Doors.
    ("halls 2\n0 > 0", 2, 3), ("halls 2\n0 > 1\n1 > 1", 3, 3), ("halls 2\n0 > 2\n1 > 0", 2, 3),
    ("halls 2\n0 > 1 1\n1 > 0", 2, 4), ("halls 2\n0 > 0 1\n1 > 0", 2, 3), ("halls 2\n0 > 1 0\n1 > 0", 2, 4),
    ("halls 3\n0 > 2 1\n1 > 0\n2 > 0", 2, 4), ("halls 3\n0 > 1 2\n1 > 0 1 2\n2 > 0", 3, 4),
    ("halls 3\n0 > 1\n1 > 0 2\n2 > 1 3", 4, 4), ("halls 3\n0 > 1\n1 > 2 0\n2 > 1", 3, 4),
    ("halls 2\n0 > 01\n1 > 0", 2, 3), ("halls 2\n0 > 1\n1 > 00", 3, 3), ("halls 2\n0 > -1\n1 > 0", 2, 3),
    ("halls 2\n0 > 1:0\n1 > 0", 2, 3), ("halls 2\n0 > 1,\n1 > 0", 2, 3), ("halls 2\n0 > >\n1 > 0", 2, 3),
    ("halls 2\n0 > 1 >\n1 > 0", 2, 4), ("halls 1\n0 > 0", 2, 3), ("halls 1\n0 > 1", 2, 3), ("halls 1\n0 > >", 2, 3),
    ("halls 10\n0 > 10", 2, 3), ("halls 2\n0 > 1 x 5 y\n1 > 0", 2, 4), ("halls 3\n0 > 1 2 2 1", 2, 5),
    # A line too many.
    ("halls 2\n0 > 1\n1 > 0\n2 > 0", 4, 1), ("halls 2\n0 > 1\n1 > 0\nhalls", 4, 1), ("halls 1\n0 >\n.", 3, 1),
    ("halls 2\n0 > 1\n1 > 0\n\n \n  halls 2\n", 6, 1), ("halls 1\n0 >\n0 >\n0 >", 3, 1), ("halls 1\n0 >\n\t", 3, 1),
    # A line that lacks: behind all lines of the text, void ones too.
    ("halls 1", 2, 1), ("halls 2\n0 > 1", 3, 1), ("halls 2\n0 > 1\n", 4, 1), ("\n\nhalls 2\n0 > 1\n \n\n", 8, 1),
    ("halls 10", 2, 1), ("halls 3\n0 > 1\n1 > 2", 4, 1), ("halls 1\n\n\n", 5, 1),
    # Several: line by line, the first word.
    ("halls 2\n0 > 0\nx y z\n0", 2, 3), ("halls 2\n1 1 1\n0 > 1", 2, 1), ("halls 3\n0 > 1 1 1\nx", 2, 4),
    ("halls 2\n0 1 5\n1 > 0", 2, 2), ("x\nhalls 2", 1, 1), ("halls 0 0\nx", 1, 2), ("halls 2\n0 > 1\n1 1", 3, 2),
    # Ahead of what cannot be come to.
    ("halls 2\n0 >\n1 >\n2 >", 4, 1), ("halls 2\n0 >", 3, 1), ("halls 3\n0 >\n1 >\n2 > 3", 4, 3),
    # Texts with letters are no texts of houses.
    (LETTERED_TWO, 2, 2), ("halls 1\n0 0 >", 2, 2),
]

# Texts of letterings that cannot be read, with the line and the word that tell why.
WRONG_LETTERINGS = [
    ("", 2, 1), ("\n", 3, 1), ("hall 2\n0 0 > 1:0\n1 1 > 0:0", 1, 1), ("halls", 1, 2), ("halls 11", 1, 2),
    ("halls 0", 1, 2), ("halls 2 0\n0 0 > 1:0\n1 1 > 0:0", 1, 3), ("halls 2\n1 0 > 1:0\n1 1 > 0:0", 2, 1),
    ("halls 2\n0 0 > 1:0\n\n0 1 > 0:0", 4, 1),
    # The kind.
    ("halls 2\n0\n1 1 > 0:0", 2, 2), ("halls 2\n0 > 1:0\n1 1 > 0:0", 2, 2), ("halls 2\n0 2 > 1:0\n1 1 > 0:0", 2, 2),
    ("halls 2\n0 00 > 1:0\n1 1 > 0:0", 2, 2), ("halls 2\n0 0 > 1:0\n1 01 > 0:0", 3, 2), ("halls 1\n0 1 >", 2, 2),
    ("halls 2\n0 -1 > 1:0\n1 1 > 0:0", 2, 2), ("halls 2\n0 0> 1:0\n1 1 > 0:0", 2, 2), ("halls 1\n0 >", 2, 2),
    ("halls 2\n0 0 > 1:0\n1 x > 0:0", 3, 2), ("halls 2\n0 0 > 1:0\n1 2 > 0:0", 3, 2), ("halls 10\n0 10 >", 2, 2),
    (WHOLE_TWO, 2, 2),
    # The sign behind it.
    ("halls 2\n0 0\n1 1 > 0:0", 2, 3), ("halls 2\n0 0 1:0\n1 1 > 0:0", 2, 3), ("halls 2\n0 0 >1:0\n1 1 > 0:0", 2, 3),
    ("halls 2\n0 0 0 > 1:0\n1 1 > 0:0", 2, 3), ("halls 1\n0 0", 2, 3), ("halls 1\n0 0 0", 2, 3),
    # Doors.
    ("halls 2\n0 0 > 1\n1 1 > 0:0", 2, 4), ("halls 2\n0 0 > 1:\n1 1 > 0:0", 2, 4), ("halls 2\n0 0 > :1\n1 1 > 0:0", 2, 4),
    ("halls 2\n0 0 > :\n1 1 > 0:0", 2, 4), ("halls 2\n0 0 > 1: 0\n1 1 > 0:0", 2, 4),
    ("halls 2\n0 0 > 1 :0\n1 1 > 0:0", 2, 4), ("halls 2\n0 0 > 1 : 0\n1 1 > 0:0", 2, 4),
    ("halls 2\n0 0 > 1:0:0\n1 1 > 0:0", 2, 4), ("halls 2\n0 0 > 1::0\n1 1 > 0:0", 2, 4),
    ("halls 2\n0 0 > 0:0\n1 1 > 0:0", 2, 4), ("halls 2\n0 0 > 2:0\n1 1 > 0:0", 2, 4),
    ("halls 2\n0 0 > 01:0\n1 1 > 0:0", 2, 4), ("halls 2\n0 0 > 1:00\n1 1 > 0:0", 2, 4),
    ("halls 2\n0 0 > 1:0\n1 1 > 00:0", 3, 4), ("halls 2\n0 0 > 1:01\n1 1 > 0:0", 2, 4),
    ("halls 2\n0 0 > 1:90\n1 1 > 0:0", 2, 4), ("halls 2\n0 0 > 1:-1\n1 1 > 0:0", 2, 4),
    ("halls 2\n0 0 > 1:a\n1 1 > 0:0", 2, 4), ("halls 2\n0 0 > -1:0\n1 1 > 0:0", 2, 4),
    ("halls 2\n0 0 > 1;0\n1 1 > 0:0", 2, 4), ("halls 2\n0 0 > 1:100\n1 1 > 0:0", 2, 4),
    ("halls 2\n0 0 > 1:0 1:1\n1 1 > 0:0", 2, 5), ("halls 3\n0 0 > 2:0 1:1\n1 1 > 0:0\n2 2 > 0:0", 2, 5),
    ("halls 3\n0 0 > 1:0 2:0\n1 1 > 0:0\n2 2 > 0:0", 2, 5), ("halls 3\n0 0 > 1:7\n1 1 > 0:89 2:89\n2 2 > 0:0", 3, 5),
    ("halls 4\n0 0 > 1:7 2:8 3:7", 2, 6), ("halls 4\n0 0 > 1:7 2:8 3:8", 2, 6), ("halls 4\n0 0 > 1:7 2:90 3:7", 2, 5),
    ("halls 1\n0 0 > 0:0", 2, 4), ("halls 2\n0 0 > 1:0 >\n1 1 > 0:0", 2, 5), ("halls 2\n0 0 > x 1\n1 1 > 0:0", 2, 4),
    # Lines too many, lines that lack, several at once.
    ("halls 2\n0 0 > 1:0\n1 1 > 0:0\n\nx", 5, 1), ("halls 1\n0 0 >\n1 0 >", 3, 1), ("halls 1", 2, 1),
    ("halls 2\n0 0 > 1:0\n\n", 5, 1), ("halls 2\n0 2 < 1:90\nx", 2, 2), ("halls 2\n0 0 < 1:90\nx", 2, 3),
    ("halls 2\n0 0 > 1:90 x\nx", 2, 4), ("halls 2\n0 0 > 1:0\nx\n", 3, 1), ("halls 2\n0 0 >\n1 1 >\n2 2 >", 4, 1),
    ("halls 2\n0 0 >", 3, 1),
]

# Texts of halls of which some can't be come to from another.
UNJOINED = [
    ("halls 2\n0 >\n1 >", "halls 2\n0 0 >\n1 1 >"),
    ("halls 2\n0 > 1\n1 >", "halls 2\n0 0 > 1:0\n1 1 >"),
    ("halls 2\n0 >\n1 > 0\n\n", "halls 2\n0 0 >\n1 0 > 0:0\n\n"),
    ("halls 4\n0 > 1\n1 > 0\n2 > 3\n3 > 2", "halls 4\n0 0 > 1:0\n1 0 > 0:0\n2 0 > 3:0\n3 0 > 2:0"),
    ("halls 3\n0 > 1 2\n1 > 0\n2 >", "halls 3\n0 0 > 1:0 2:1\n1 0 > 0:0\n2 0 >"),
    ("halls 3\n0 > 1\n1 > 0\n2 > 1", "halls 3\n0 0 > 1:89\n1 0 > 0:0\n2 0 > 1:5"),
]


def slow_text(house, lettering=None):
    """The text of a house, or of a house with a lettering, by a look at all doors for each hall."""
    halls, doors = house
    text = f"halls {halls}"
    for hall in range(halls):
        text += f"\n{hall} >" if lettering is None else f"\n{hall} {lettering[0][hall]} >"
        for at, (one, other) in enumerate(doors):
            if one == hall:
                text += f" {other}" if lettering is None else f" {other}:{lettering[1][at]}"
    return text


def number(word, high):
    """The number of a word, None if it is none or is above a limit."""
    if not re.fullmatch("0|[1-9][0-9]{0,3}", word) or int(word) > high:
        return None
    return int(word)


def wrong_places(words, due, lettered_too, halls):
    """The places of the words of a line that cannot stand, counted from 1."""
    padded = words + [""] * 3
    if due == 0:
        return [place for place, wrong in [
            (1, padded[0] != "halls"), (2, not number(padded[1], 10)), (3, len(words) > 2),
        ] if wrong]
    if due > halls:
        return [1]
    found = [] if padded[0] == str(due - 1) else [1]
    if lettered_too and number(padded[1], halls - 1) is None:
        found.append(2)
    sign = 2 if lettered_too else 1
    if padded[sign] != ">":
        found.append(sign + 1)
    last, seen = -1, []
    for place, word in enumerate(words[sign + 1:], start=sign + 2):
        parts = word.split(":")
        end = number(parts[0], halls - 1)
        letter = number(parts[1], 89) if len(parts) > 1 else None
        right = len(parts) == (2 if lettered_too else 1) and end is not None and end > last and end != due - 1
        if not right or lettered_too and (letter is None or letter in seen):
            found.append(place)
            break
        last = end
        seen.append(letter)
    return found


def slow_read(text, lettered_too):
    """What a text tells, by a look at all its lines: a pair of words, or the error as a tuple."""
    lines = text.split("\n")
    rows = [(at, re.findall("[^ ]+", line)) for at, line in enumerate(lines, start=1) if line.replace(" ", "")]
    halls = 0
    for due, (at, words) in enumerate(rows):
        wrong = wrong_places(words, due, lettered_too, halls)
        if wrong:
            return "line", at, wrong[0]
        if due == 0:
            halls = int(words[1])
    if not rows or len(rows) <= halls:
        return "line", len(lines) + 1, 1
    skipped = 3 if lettered_too else 2
    ends = [(hall, word.split(":")) for hall, (_, words) in enumerate(rows[1:]) for word in words[skipped:]]
    doors = tuple((hall, int(parts[0])) for hall, parts in ends)
    if any(steps is None for row in samples.slow_steps(halls, doors) for steps in row):
        return "doors",
    if not lettered_too:
        return halls, doors
    kinds = tuple(int(words[1]) for _, words in rows[1:])
    return (halls, doors), (kinds, tuple(int(parts[1]) for _, parts in ends))


def told(function, text):
    """What a text tells, or the error as a tuple."""
    try:
        return function(text)
    except BadLine as error:
        return "line", error.line, error.word
    except BadHouse as error:
        return error.part,


def spaced(text, kind):
    """A text with more spaces and void lines, that tells the same."""
    lines = text.split("\n")
    if kind == 0:
        return "\n\n" + "\n \n".join(lines) + "\n\n   "
    if kind == 1:
        return "\n".join("   " + line for line in lines)
    if kind == 2:
        return "\n".join(line + "  " for line in lines) + "\n"
    if kind == 3:
        return text.replace(" ", "    ")
    return "  \n" + "\n\n\n".join(" " * at + line.replace(" ", " " * (at + 1)) + " " for at, line in enumerate(lines))


def wrong_by_a_word(text, words):
    """All texts that are a text but for one word, that is another one, lacks or stands twice."""
    lines = [line.split(" ") for line in text.split("\n")]
    for at, line in enumerate(lines):
        for place in range(len(line)):
            for changed in [[word] for word in words] + [[], [line[place]] * 2]:
                other = line[:place] + changed + line[place + 1:]
                yield "\n".join(" ".join(row) for row in lines[:at] + [other] + lines[at + 1:])
        for changed in [[], [line, line], [[]], lines[at + 1:at + 2] + [line]]:
            yield "\n".join(" ".join(row) for row in lines[:at] + changed + lines[at + 1:])


class TextCase(HouseCase):
    def check_line(self, function, text, line, word):
        self.check_error(lambda: function(text), text[:80], BadLine, line=line, word=word)


class ExampleTests(TextCase):
    def test_examples_of_the_interface(self):
        line = (3, ((0, 1), (1, 0), (1, 2), (2, 1)))
        self.assertEqual(
            [write_house(line), write_lettering(line, ((0, 1, 2), (0, 0, 1, 0))),
             read_house("halls 2\n0 > 1\n1 > 0")],
            ['halls 3\n0 > 1\n1 > 0 2\n2 > 1', 'halls 3\n0 0 > 1:0\n1 1 > 0:0 2:1\n2 2 > 1:0', (2, ((0, 1), (1, 0)))],
        )
        self.check_line(read_house, "halls 2\n0 > 0", 2, 3)

    def test_functions_are_defined_in_their_file(self):
        for name in ["write_house", "write_lettering", "read_house", "read_lettering"]:
            self.assertEqual(getattr(housetexts_file, name).__module__, "letterhalls.housetexts")


class WriteTests(TextCase):
    def test_houses(self):
        for house in samples.HOUSES + list(samples.small_houses(3)) + samples.mixed_houses(10, 5):
            self.assertEqual(write_house(house), slow_text(house))

    def test_letterings(self):
        for house, lettering in ALL:
            self.assertEqual(write_lettering(house, lettering), slow_text(house, lettering))

    def test_single_hall(self):
        self.assertEqual(write_house(samples.SINGLE), "halls 1\n0 >")
        self.assertEqual(write_lettering(samples.SINGLE, ((0,), ())), "halls 1\n0 0 >")

    def test_ten_halls(self):
        self.assertEqual(
            write_house(samples.one_way_ring(10)),
            "halls 10\n0 > 1\n1 > 2\n2 > 3\n3 > 4\n4 > 5\n5 > 6\n6 > 7\n7 > 8\n8 > 9\n9 > 0",
        )
        self.assertEqual(write_house(samples.whole(10)).split("\n")[5], "4 > 0 1 2 3 5 6 7 8 9")
        self.assertEqual(
            write_lettering(samples.one_way_ring(10), ((9,) * 10, (89,) * 10)).split("\n")[9:],
            ["8 9 > 9:89", "9 9 > 0:89"],
        )

    def test_doors_keep_their_order_whatever_their_letters(self):
        self.assertEqual(write_lettering(samples.star(4), ((0, 1, 2, 3), (5, 4, 3, 9, 8, 7))),
                         "halls 4\n0 0 > 1:5 2:4 3:3\n1 1 > 0:9\n2 2 > 0:8\n3 3 > 0:7")

    def test_wrong_houses_and_letterings(self):
        for at, (value, part) in enumerate(samples.WRONG_HOUSES):
            self.check_error(lambda: write_house(value), at, BadHouse, part=part)
            for lettering in [((0, 0), (0, 0)), None]:
                self.check_error(lambda: write_lettering(value, lettering), at, BadHouse, part=part)
        for house in [samples.SINGLE, samples.SWAP, samples.LINE]:
            for at, (value, part) in enumerate(lettered.wrong_letterings(house)):
                self.check_error(lambda: write_lettering(house, value), (house[0], at), BadLettering, part=part)

    def test_order_of_errors(self):
        self.check_order(write_lettering, [samples.SWAP, ((0, 0), (0, 0))], [
            [((0, ()), BadHouse, {"part": "halls"}), (None, BadHouse, {"part": "whole"})],
            [(((0, 2), (0, 0)), BadLettering, {"part": "kinds"}), ([], BadLettering, {"part": "whole"})],
        ])

    def test_arguments_are_not_modified(self):
        value = [[0, 1], {0: [0]}, (0, [1])]
        kept = copy.deepcopy(value)
        for called in [
            lambda: write_house(value), lambda: write_lettering(value, value), lambda: read_house(value),
            lambda: write_lettering(samples.SWAP, value), lambda: read_lettering(value),
        ]:
            with self.assertRaises((BadHouse, BadLettering, BadText)):
                called()
        self.assertEqual(value, kept)
        for house, lettering in ALL:
            kept = copy.deepcopy((house, lettering))
            write_house(house), write_lettering(house, lettering)
            self.assertEqual((house, lettering), kept)


class ReadTests(TextCase):
    def test_what_is_written_is_read(self):
        for house in samples.HOUSES + list(samples.small_houses(3)) + samples.mixed_houses(10, 5):
            self.assertEqual(read_house(write_house(house)), house)
        for house, lettering in ALL:
            self.assertEqual(read_lettering(write_lettering(house, lettering)), (house, lettering))

    def test_kinds_of_what_is_read(self):
        house = read_house(WHOLE_TWO)
        self.assertEqual(house, samples.SWAP)
        self.assertEqual([type(house), type(house[0]), type(house[1]), type(house[1][0]), type(house[1][0][0])],
                         [tuple, int, tuple, tuple, int])
        pair = read_lettering(LETTERED_TWO)
        self.assertEqual(pair, (samples.SWAP, ((0, 1), (5, 89))))
        self.assertEqual([type(pair), type(pair[1]), type(pair[1][0]), type(pair[1][1]), type(pair[1][1][0])],
                         [tuple] * 4 + [int])

    def test_single_hall(self):
        for text in ["halls 1\n0 >", "halls 1\n0 > ", "\n halls  1 \n\n  0   >  \n "]:
            self.assertEqual(read_house(text), samples.SINGLE)
        for text in ["halls 1\n0 0 >", "halls 1\n0 0 > ", "\n halls  1 \n\n  0  0   >  \n "]:
            self.assertEqual(read_lettering(text), (samples.SINGLE, ((0,), ())))

    def test_more_spaces_and_void_lines(self):
        for house, lettering in ALL:
            for kind in range(5):
                self.assertEqual(read_house(spaced(write_house(house), kind)), house)
                self.assertEqual(read_lettering(spaced(write_lettering(house, lettering), kind)), (house, lettering))

    def test_letters_0_and_89(self):
        text = "halls 3\n0 2 > 1:89 2:0\n1 0 > 0:0\n2 2 > 0:89"
        self.assertEqual(read_lettering(text), ((3, ((0, 1), (0, 2), (1, 0), (2, 0))), ((2, 0, 2), (89, 0, 0, 89))))

    def test_letters_may_stand_again_in_other_lines_and_fall(self):
        text = "halls 4\n0 0 > 1:5 2:4 3:3\n1 1 > 0:5\n2 2 > 0:4\n3 3 > 0:5"
        self.assertEqual(read_lettering(text), (samples.star(4), ((0, 1, 2, 3), (5, 4, 3, 5, 4, 5))))

    def test_letterings_need_not_be_even(self):
        self.assertEqual(read_lettering("halls 2\n0 0 > 1:0\n1 0 > 0:1"), (samples.SWAP, ((0, 0), (0, 1))))


class WrongTextTests(TextCase):
    def test_wrong_texts_of_houses(self):
        for text, line, word in WRONG_HOUSES:
            self.assertEqual(slow_read(text, False), ("line", line, word), text)
            self.check_line(read_house, text, line, word)

    def test_wrong_texts_of_letterings(self):
        for text, line, word in WRONG_LETTERINGS:
            self.assertEqual(slow_read(text, True), ("line", line, word), text)
            self.check_line(read_lettering, text, line, word)

    def test_no_numbers(self):
        for sign in NO_NUMBERS:
            self.check_line(read_house, f"halls {sign}\n0 > 1\n1 > 0", 1, 2)
            self.check_line(read_house, f"halls 2\n{sign} > 1\n1 > 0", 2, 1)
            self.check_line(read_house, f"halls 2\n0 > 1\n1 > {sign}", 3, 3)
            self.check_line(read_house, f"halls 2\n0 > {sign}\n1 > 0", 2, 3)
            self.check_line(read_lettering, f"halls {sign}\n0 0 > 1:0\n1 1 > 0:0", 1, 2)
            self.check_line(read_lettering, f"halls 2\n0 0 > 1:0\n{sign} 1 > 0:0", 3, 1)
            self.check_line(read_lettering, f"halls 2\n0 {sign} > 1:0\n1 1 > 0:0", 2, 2)
            self.check_line(read_lettering, f"halls 2\n0 0 > {sign}:0\n1 1 > 0:0", 2, 4)
            self.check_line(read_lettering, f"halls 2\n0 0 > 1:0\n1 1 > 0:{sign}", 3, 4)

    def test_limits_of_numbers(self):
        for halls in range(1, 11):
            house = samples.whole(halls)
            text = write_lettering(house, lettered.still(house))
            self.assertEqual(read_lettering(text), (house, lettered.still(house)))
            last = f"\n{halls - 1} {halls - 1} >"
            self.check_line(read_lettering, text.replace(last, f"\n{halls - 1} {halls} >"), halls + 1, 2)
            self.check_line(read_lettering, text + f" {halls}:89", halls + 1, halls + 3)
            self.check_line(read_house, write_house(house) + f" {halls}", halls + 1, halls + 2)
        for letter in range(100):
            text = f"halls 2\n0 0 > 1:{letter}\n1 1 > 0:0"
            if letter < 90:
                self.assertEqual(read_lettering(text), (samples.SWAP, ((0, 1), (letter, 0))))
            else:
                self.check_line(read_lettering, text, 2, 4)

    def test_texts_wrong_by_one_word(self):
        words = ["halls", ">", "x", "0", "1", "2", "3", "00", "01", "10", "11", "1:0", "2:5", "0:1", "1:90", ":", "0:",
                 ":0", "1:05", "-1", "\t", "\u0661"]
        for text in ["halls 1\n0 >", WHOLE_TWO, slow_text(samples.LINE), slow_text(samples.whole(3)),
                     "\nhalls 3\n 0 > 1\n\n1 >  2\n2 > 0 \n"]:
            self.check_changed(read_house, text, words, False)
        for text in ["halls 1\n0 0 >", LETTERED_TWO, slow_text(samples.LINE, ((0, 1, 2), (0, 0, 1, 0))),
                     slow_text(samples.whole(3), lettered.EVEN_RING), "\nhalls 2\n 0 1 > 1:0\n\n1  0 >  0:1 \n"]:
            self.check_changed(read_lettering, text, words, True)

    def check_changed(self, function, text, words, lettered_too):
        for changed in wrong_by_a_word(text, words):
            for twice in [changed] + list(wrong_by_a_word(changed, ["5", ">"])):
                if told(function, twice) != slow_read(twice, lettered_too):
                    self.fail(f"{twice!r}: {told(function, twice)}, not {slow_read(twice, lettered_too)}")

    def test_halls_that_cannot_be_come_to(self):
        for house, with_letters in UNJOINED:
            self.check_error(lambda: read_house(house), house, BadHouse, part="doors")
            self.check_error(lambda: read_lettering(with_letters), with_letters, BadHouse, part="doors")

    def test_what_is_no_string(self):
        for at, value in enumerate(NO_STRINGS):
            self.check_error(lambda: read_house(value), at, BadText)
            self.check_error(lambda: read_lettering(value), at, BadText)

    def test_long_texts(self):
        self.check_line(read_house, "\n" * 100000, 100002, 1)
        self.check_line(read_house, "halls 2\n0 > 1" + " 1" * 100000, 2, 4)
        self.check_line(read_lettering, "halls 2" + " " * 100000 + "x", 1, 3)


if __name__ == "__main__":
    unittest.main()
