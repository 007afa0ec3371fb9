"""Points [3] and [35]: texts of nets and Turns, line by line, against a plain reader of lines that the test keeps."""

import itertools
import random
import re
import unittest

from helpers import any_objects, make, raises, small_nets
from repeatnets.errors import BadText
from repeatnets.nets import Net
from repeatnets.texts import read, write
from repeatnets.turns import Turns, around, quarter, straight

NAME = "[a-z0-9.]+"
NUMBER = "(?:0|-?[1-9][0-9]*)"
STAR = Net(2, ["r"], [("e", "r", "r", [1, 0]), ("n", "r", "r", [0, 1]), ("b", "r", "r", [-2, -1])])
STAR_TEXT = "net 2\nroom r\ntie e r r 1 0\ntie n r r 0 1\ntie b r r -2 -1"
MIXED = Net(1, ["room", "tie.0", "7"], [("net", "room", "7", [10 ** 20]), ("tie", "7", "7", [0]),
                                      ("x", "tie.0", "room", [-10])])
MIXED_TEXT = "net 1\nroom room\nroom tie.0\nroom 7\ntie net room 7 100000000000000000000\ntie tie 7 7 0\ntie x tie.0 room -10"
PLANE = Turns(2, 1, [((1, -1, 0), (0, 1, 0)), ((0, 1, 0), (0, 1, 0)), ((0, 1, 0), (0, -1, 0))])
PLANE_TEXT = "turns 2 1\np0.0 m0.0\np0.0 p0.0\nm1.0 p0.0"
SAMPLES = [
    (STAR, STAR_TEXT), (MIXED, MIXED_TEXT), (PLANE, PLANE_TEXT),
    (Net(0, ["a", "b"], [("s", "a", "b", []), ("t", "b", "a", [])]), "net 0\nroom a\nroom b\ntie s a b\ntie t b a"),
    (Net(4, ["a"], []), "net 4\nroom a"),
    (Net(3, ["a.b", "1"], [("..", "1", "a.b", [0, -1, 10])]), "net 3\nroom a.b\nroom 1\ntie .. 1 a.b 0 -1 10"),
    (Turns(1, 1, []), "turns 1 1"), (Turns(3, 3, []), "turns 3 3"),
    (Turns(3, 2, [((2, 1, 1), (0, -1, 0)), ((2, -1, 1), (2, 1, 0))]), "turns 3 2\nm2.1 p2.0\np2.1 m0.0"),
]


def lane_key(word):
    return int(word[1]), {"m": -1, "p": 1}[word[0]], int(word[3])


def first_wrong_line(text):
    """The number of the first line up to which no text begins, by plain patterns; None if the text is one."""
    lines = text.split("\n")
    if re.fullmatch("net [0-4]", lines[0]):
        pattern = "tie (%s) (%s) (%s)%s" % (NAME, NAME, NAME, (" " + NUMBER) * int(lines[0][4]))
        rooms, ties = [], []
        for number, line in enumerate(lines[1:], 2):
            room = re.fullmatch("room (%s)" % NAME, line)
            tie = re.fullmatch(pattern, line)
            if room and not ties and room[1] not in rooms:
                rooms.append(room[1])
            elif tie and tie[1] not in ties and tie[2] in rooms and tie[3] in rooms:
                ties.append(tie[1])
            else:
                return number
        return None if rooms else len(lines) + 1
    if re.fullmatch("turns [1-3] [1-3]", lines[0]):
        lane = "[pm][0-%d][.][0-%d]" % (int(lines[0][6]) - 1, int(lines[0][8]) - 1)
        last = None
        for number, line in enumerate(lines[1:], 2):
            if not re.fullmatch("%s %s" % (lane, lane), line):
                return number
            pair = tuple(lane_key(word) for word in line.split(" "))
            if last is not None and pair <= last:
                return number
            last = pair
        return None
    return 1


class TestWrite(unittest.TestCase):
    def test_the_very_lines(self):
        for thing, text in SAMPLES:
            self.assertEqual(write(thing), text)
            self.assertIs(type(write(thing)), str)

    def test_each_net(self):
        for raw in small_nets(101, 200, most_rooms=4, most_ties=6, most_axes=4, reach=10 ** 15 - 1):
            axes, rooms, ties = raw
            lines = ["net %d" % axes] + ["room " + room for room in rooms]
            lines += [" ".join(["tie", name, start, end] + ["%d" % number for number in step])
                      for name, start, end, step in ties]
            text = write(make(raw))
            self.assertEqual(text, "\n".join(lines))
            self.assertEqual(read(text), make(raw))

    def test_each_turns(self):
        chance = random.Random(102)
        for axes, kinds in itertools.product((1, 2, 3), (1, 2, 3)):
            lanes = list(itertools.product(range(axes), (-1, 1), range(kinds)))
            every = list(itertools.product(lanes, lanes))
            for many in (0, 1, 2, len(every)):
                pairs = chance.sample(every, many)
                lines = ["turns %d %d" % (axes, kinds)]
                for pair in sorted(pairs):
                    lines.append(" ".join("%s%d.%d" % ("m" if sign < 0 else "p", axis, kind) for axis, sign, kind in pair))
                turns = Turns(axes, kinds, pairs)
                self.assertEqual(write(turns), "\n".join(lines))
                self.assertEqual(read(write(turns)), turns)

    def test_things_stay_as_they_are(self):
        net = Net(1, ["a"], [("e", "a", "a", [1])])
        write(thing=net)
        self.assertEqual(net, Net(1, ["a"], [("e", "a", "a", [1])]))


class TestRead(unittest.TestCase):
    def check(self, text):
        line = first_wrong_line(text)
        if line is None:
            self.assertEqual(write(read(text)), text)
        else:
            raises(self, BadText, [("line", line)], lambda: read(text))
        return line

    def test_what_write_tells(self):
        for thing, text in SAMPLES:
            told = read(text=text)
            self.assertEqual(told, thing)
            self.assertIs(type(told), type(thing))
            self.assertIsNone(self.check(text))

    def test_cut_off_at_each_place(self):
        found = set()
        for _, text in SAMPLES:
            for at in range(len(text)):
                found.add(self.check(text[:at]))
                self.check(text[at + 1:])
        self.assertEqual(found, {None, 1, 2, 3, 4, 5, 6, 7})

    def test_changed_at_each_place(self):
        for _, text in SAMPLES:
            found = set()
            for at in range(len(text)):
                self.check(text[:at] + text[at + 1:])
                for sign in " \n0123-+_aermnptz.A\t\r\u0663\u00b2":
                    found.add(self.check(text[:at] + sign + text[at + 1:]))
                    found.add(self.check(text[:at] + sign + text[at:]))
            self.assertTrue(set(range(1, text.count("\n") + 2)) <= found)
            for sign in " \n0a.-":
                self.check(text + sign)

    def test_lines_left_out_doubled_and_swapped(self):
        for _, text in SAMPLES:
            lines = text.split("\n")
            for at in range(len(lines)):
                self.check("\n".join(lines[:at] + lines[at + 1:]))
                self.check("\n".join(lines[:at + 1] + lines[at:]))
                self.check("\n".join(lines[:at] + [""] + lines[at:]))
                for other in range(at):
                    swapped = list(lines)
                    swapped[at], swapped[other] = swapped[other], swapped[at]
                    self.check("\n".join(swapped))
                for word in range(len(lines[at].split(" "))):
                    words = lines[at].split(" ")
                    self.check("\n".join(lines[:at] + [" ".join(words[:word] + words[word + 1:])] + lines[at + 1:]))
                    self.check("\n".join(lines[:at] + [" ".join(words[:word + 1] + words[word:])] + lines[at + 1:]))

    def check_line(self, text, line):
        self.assertEqual(first_wrong_line(text), line, text)
        self.check(text)

    def test_no_text_at_all(self):
        for text in ("", "\n", " ", "n", "net", "net ", "net 2 ", " net 2", "net  2", "Net 2", "net 2\r", "net 5", "net -1",
                     "net 02", "net +2", "net -0", "net 2.0", "net \u0662", "net 2 1", "net a", "turns", "turns 1",
                     "turns 0 1", "turns 1 0", "turns 4 1", "turns 1 4", "turns 01 1", "turns 1 1 1", "turns  1 1",
                     "turns 1 1 ", "room a", "tie e a a", "x\nnet 2\nroom a", "\nnet 2\nroom a", "net 10", "turns 1 -1"):
            self.check_line(text, 1)

    def test_no_room(self):
        for axes in range(5):
            self.check_line("net %d" % axes, 2)
        self.check_line("net 1\n", 2)
        self.check_line("net 1\ntie e a a 1", 2)
        self.check_line("net 1\nroom a\n", 3)

    def test_rooms_and_ties_twice_or_in_no_order(self):
        self.check_line("net 0\nroom a\nroom b\nroom a\nroom c", 4)
        self.check_line("net 0\nroom a\ntie e a a\ntie f a a\ntie e a a", 5)
        self.check_line("net 0\nroom a\ntie e a a\nroom b", 4)
        self.check_line("net 0\nroom a\ntie e a b\nroom b", 3)
        self.check_line("net 0\nroom a\ntie a a a", None)

    def test_names_that_are_none(self):
        for name in ("A", "a-b", "a_b", "", "a,b", "\u00e9", "a\tb", "a:", "\u0663"):
            self.check_line("net 0\nroom a\nroom %s" % name, 3)
            self.check_line("net 0\nroom a\ntie %s a a" % name, 3)
            self.check_line("net 0\nroom a\ntie e %s a" % name, 3)
            self.check_line("net 0\nroom a\ntie e a %s" % name, 3)

    def test_numbers_written_otherwise(self):
        for number in ("+1", "01", "-0", "1_0", "\u0661", "\u00b2", "1.0", "", "-", "--1", "00", "-01", "0x1", "1e3", "a", "- 1",
                       "1 ", " 1", "\uff11", "1\t", "True", "one"):
            self.check_line("net 1\nroom a\ntie e a a %s\nroom b" % number, 3)
            self.check_line("net 2\nroom a\ntie e a a 0 %s" % number, 3)
        for number in ("0", "-1", "10", "-10", "1" + "0" * 40, "-9" + "9" * 200):
            self.check_line("net 1\nroom a\ntie e a a %s" % number, None)
            self.assertEqual(read("net 1\nroom a\ntie e a a %s" % number).tie("e"), ("e", "a", "a", (int(number),)))

    def test_too_few_and_too_many_numbers(self):
        for axes, many in itertools.product(range(5), range(6)):
            self.check_line("net %d\nroom a\ntie e a a%s" % (axes, " 1" * many), None if axes == many else 3)

    def test_pairs(self):
        self.check_line("turns 1 1\np0.0 m0.0\np0.0 m0.0", 3)
        self.check_line("turns 1 1\np0.0 p0.0\np0.0 m0.0", 3)
        self.check_line("turns 1 1\np0.0 m0.0\nm0.0 p0.0", 3)
        self.check_line("turns 1 1\nm0.0 p0.0\np0.0 m0.0", None)
        for pair in ("p1.0 p0.0", "p0.0 p0.1", "p0.0", "p0.0 p0.0 p0.0", "p0.0p0.0", "p0.0.p0.0", "p0 p0", "0 1 0", "p0.0  p0.0",
                     "P0.0 p0.0", "p00.0 p0.0", "+0.0 p0.0", "p0.0 ", "", "room a", "tie e a a"):
            self.check_line("turns 1 1\n%s" % pair, 2)
            self.check_line("turns 1 1\nm0.0 m0.0\n%s\np0.0 p0.0" % pair, 3)
        self.check_line("turns 1 3\nm0.0 p0.2\nm0.2 m0.0\np0.1 p0.1", None)
        self.check_line("turns 3 1\nm0.0 p2.0\nm2.0 m0.0\np2.0 p2.0", None)

    def test_no_string(self):
        for thing in any_objects() + [STAR, PLANE, [STAR_TEXT], (STAR_TEXT,), {STAR_TEXT: 1}, [STAR_TEXT.split("\n")]]:
            if isinstance(thing, str):
                self.check(thing)
            else:
                raises(self, BadText, [("line", 0)], lambda: read(thing))

    def test_new_each_time(self):
        one, other = read(STAR_TEXT), read(STAR_TEXT)
        self.assertEqual(one, other)
        one.ties().clear()
        self.assertEqual(read(STAR_TEXT), STAR)

    def test_random_lines(self):
        chance = random.Random(103)
        parts = ["net 0", "net 1", "room a", "room b", "tie e a b", "tie e a b 1", "tie f b a 0", "turns 1 1", "m0.0 p0.0",
                 "p0.0 m0.0", ""]
        found = [self.check("\n".join(chance.choices(parts, k=chance.randint(1, 5)))) for _ in range(4000)]
        self.assertTrue({None, 1, 2, 3, 4} <= set(found))

    def test_facts_of_turns_by_text(self):
        turns = straight(2, 1) | quarter(2, 1)
        self.assertEqual(read(write(turns)) & around(2, 1), Turns(2, 1, []))
        self.assertEqual(read(write(turns.net())), turns.net())


if __name__ == "__main__":
    unittest.main()
