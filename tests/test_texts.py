"""Promises [11] and [12]: ways written down and read again, and the samples."""

import unittest

from silentdecks.errors import BadNumber, BadText, BadWay
from silentdecks.texts import read_way, sample, written
from silentdecks.ways import is_way
from tests.builders import LAY, ODD_VALUES, moved_chain

HEAD = "bits 1 helps 01\n"
GOOD = "lay 0 1\n"


class Written(unittest.TestCase):
    def both_ways(self, way, text):
        self.assertEqual(written(way), text)
        self.assertEqual(read_way(text), way)

    def test_each_kind_of_node(self):
        self.both_ways((1, (), (LAY,)), "bits 1 helps -\nlay 0 1\n")
        self.both_ways((2, (1,), (("move", (4, 0, 3, 1, 2), 0),)), "bits 2 helps 1\nmove 4 0 3 1 2 to 0\n")
        self.both_ways((1, (), (("shuffle", ((0, 1),), 0),)), "bits 1 helps -\nshuffle 0 1 to 0\n")
        self.both_ways((1, (), (("shuffle", ((0, 1), (1, 0)), 0),)), "bits 1 helps -\nshuffle 0 1 / 1 0 to 0\n")
        self.both_ways((1, (), (("turn", (1,), (((0,), 0),)),)), "bits 1 helps -\nturn 1 : 0 to 0\n")
        turn = ("turn", (0, 3), (((0, 0), 1), ((0, 1), 0), ((1, 1), 1)))
        self.both_ways((1, (0, 1), (turn, LAY)), HEAD + "turn 0 3 : 00 to 1, 01 to 0, 11 to 1\nlay 0 1\n")
        self.both_ways((3, (), (("lay", ((5, 0), (2, 1))),)), "bits 3 helps -\nlay 5 0 / 2 1\n")
        self.both_ways((1, (), (("tell", (1,)),)), "bits 1 helps -\ntell 1\n")
        self.both_ways((1, (), (("tell", (0, 1)),)), "bits 1 helps -\ntell 01\n")
        self.both_ways((1, (0, 1, 1, 0, 1, 0), (LAY,)), "bits 1 helps 011010\nlay 0 1\n")

    def test_numbers_of_two_figures(self):
        way = moved_chain(24)
        text = "bits 1 helps -\n" + "".join(f"move 0 1 to {k}\n" for k in range(1, 24)) + "lay 0 1\n"
        self.both_ways(way, text)

    def test_samples(self):
        for name in ("five", "double", "again", "look"):
            way = sample(name)[0]
            self.assertEqual(read_way(written(way)), way)
        five = ("bits 2 helps 1\nmove 1 0 4 2 3 to 1\n"
                "shuffle 0 1 2 3 4 / 1 2 3 4 0 / 2 3 4 0 1 / 3 4 0 1 2 / 4 0 1 2 3 to 2\n"
                "turn 0 1 2 3 4 : 00111 to 3, 01011 to 4, 01101 to 4, 01110 to 3, 10011 to 3, 10101 to 4, 10110 to 4, "
                "11001 to 3, 11010 to 4, 11100 to 3\ntell 1\ntell 0\n")
        self.assertEqual(written(sample("five")[0]), five)

    def test_no_way(self):
        for value in ODD_VALUES + ((1, (), (None,)),):
            with self.assertRaises(BadWay):
                written(value)


class Read(unittest.TestCase):
    def bad(self, text, line):
        with self.assertRaises(BadText, msg=text) as caught:
            read_way(text)
        self.assertEqual(caught.exception.line, line, text)

    def bad_form(self, line):
        """A line that has no form is told although a node ahead of it is wrong."""
        self.bad(HEAD + line + "\n", 1)
        self.bad(HEAD + GOOD + line + "\n" + GOOD, 2)
        self.bad(HEAD + "lay 0 0\n" + line + "\n", 2)
        self.bad(HEAD + line + "\nfoo\n", 1)

    def bad_node(self, line):
        """A line that has the form but is no node is told behind a line that has none."""
        self.bad(HEAD + line + "\n", 1)
        self.bad(HEAD + line + "\nfoo\n", 2)
        self.bad(HEAD + GOOD + line + "\nlay 0 0\n", 2)
        self.bad(HEAD + "tell 0\n" + line + "\n" + GOOD, 2)

    def test_no_string(self):
        for value in ODD_VALUES + ("",):
            if not isinstance(value, str) or value == "":
                self.bad(value, 0)
        self.bad([HEAD, GOOD], 0)
        self.bad((HEAD + GOOD).encode(), 0)

    def test_last_line_not_ended(self):
        self.bad("x", 0)
        self.bad("bits 1 helps 01", 0)
        self.bad(HEAD + "lay 0 1", 1)
        self.bad(HEAD + GOOD + " ", 2)
        self.bad("foo\nfoo\nlay 0 1", 2)
        self.bad(HEAD + GOOD * 30 + "lay", 31)

    def test_first_line(self):
        for line in ("", "bits", "bits 1", "bits 1 helps", "bits 1 helps ", "bits 1 helps 01 ", " bits 1 helps 01",
                     "bits  1 helps 01", "bits 1 helps 0 1", "bits 1 helps 2", "bits 1 helps 0-", "bits 1 helps --",
                     "bit 1 helps 01", "Bits 1 helps 01", "bits 1 help 01", "bits 01 helps 01", "bits 001 helps 01",
                     "bits 100 helps 01", "bits x helps 01", "bits -1 helps 01", "bits +1 helps 01", "bits 1\thelps 01",
                     "bits 1 helps 01\r", "bits \u0661 helps 01", "bits 1 helps \u0660", "bits \u00b9 helps -",
                     "lay 0 1", "bits 1 helps 01 helps 01"):
            self.bad(line + "\n" + GOOD, 0)

    def test_no_way_begins_so(self):
        for line in ("bits 0 helps -", "bits 4 helps -", "bits 10 helps -", "bits 99 helps 01", "bits 1 helps 0000000",
                     "bits 2 helps 00000", "bits 3 helps 000"):
            self.bad(line + "\n" + GOOD, 0)
        for line in ("bits 1 helps 000000", "bits 2 helps 0000", "bits 3 helps 00", "bits 3 helps -"):
            self.assertEqual(read_way(line + "\n" + GOOD)[2], (LAY,))

    def test_first_line_comes_ahead_of_the_nodes(self):
        self.bad("bits 4 helps -\n", 0)
        self.bad("\n", 0)
        self.bad("foo\n" * 30, 0)
        self.bad("bits 4 helps -\nfoo\n", 0)

    def test_how_many_nodes(self):
        self.bad(HEAD, 1)
        self.assertEqual(len(read_way(HEAD + GOOD * 24)[2]), 24)
        self.bad(HEAD + GOOD * 25, 26)
        self.bad(HEAD + GOOD * 40, 41)
        self.bad(HEAD + "foo\n" * 25, 26)

    def test_lines_without_a_form(self):
        for line in ("", " ", "foo", "lay0 1", "Lay 0 1", " lay 0 1", "lay", "lay ", "lay  0 1", "lay 0  1", "lay 0 1 ",
                     "lay 0,1", "lay 0 1/2 3", "lay 0 1 /", "lay / 0 1", "lay 0 1 / / 2 3", "lay 0 1 /  2 3", "lay 0 x",
                     "lay -1 0", "lay 0 1 to 2", "lay 0\t1", "lay 0 1\r", "-", "end 0 1"):
            self.bad_form(line)
        for line in ("move", "move ", "move to 0", "move  to 0", "move 0 1 2 3", "move 0 1 2 3 to", "move 0 1 2 3 to ",
                     "move 0 1 2 3 to x", "move 0 1 2 3 to 0 to 0", "move 0 1 2 3 to 0 ", "move 0 1 2 3  to 0",
                     "move 0 1 / 2 3 to 0", "move 0123 to 0", "move 0 1 2 3 -> 0", "move 0 1 2 3 to 0, 1"):
            self.bad_form(line)
        for line in ("shuffle", "shuffle to 0", "shuffle 0 1 2 3", "shuffle 0 1 2 3 / to 0", "shuffle / 0 1 2 3 to 0",
                     "shuffle 0 1 2 3, 1 0 2 3 to 0", "shuffle 0 1 2 3 to 0 / 1 0 2 3 to 0", "shuffle 0 1 2 3/1 0 2 3 to 0"):
            self.bad_form(line)
        for line in ("turn", "turn 0", "turn 0 :", "turn 0 : ", "turn 0 : 0", "turn 0 : 0 to", "turn 0 : 0 to 0,",
                     "turn 0 : 0 to 0,1 to 0", "turn 0 : 0 to 0 , 1 to 0", "turn 0 : 0 to 0, ", "turn 0: 0 to 0",
                     "turn : 0 to 0", "turn  : 0 to 0", "turn 0 : 2 to 0", "turn 0 : 0 1 to 0", "turn 0 : x to 0",
                     "turn 0 : 0 to 0 : 1 to 0", "turn 0 : 0 to 0 / 1 to 0", "turn 0 : 0 to 0 to 1", "turn 0 1 : 0,1 to 0"):
            self.bad_form(line)
        for line in ("tell", "tell ", "tell 2", "tell 0 1", "tell -", "tell x", "tell 01 ", "tell  0", "tell \u0661"):
            self.bad_form(line)

    def test_numbers(self):
        for number in ("00", "01", "07", "100", "000", "-1", "+1", "1.0", "\u0661", "\u00b2", "1_0", "0x1", ""):
            self.bad_form(f"lay 0 {number}")
            self.bad_form(f"move {number} 1 2 3 to 0")
            self.bad_form(f"move 0 1 2 3 to {number}")
            self.bad_form(f"shuffle 0 1 2 3 to {number}")
            self.bad_form(f"turn {number} : 0 to 0")
            self.bad_form(f"turn 0 : 0 to {number}")
        for number in ("4", "10", "99"):
            self.bad_node(f"lay 0 {number}")
            self.bad_node(f"move 0 1 2 3 to {number}")
            self.bad_node(f"turn 0 : 0 to {number}")

    def test_wrong_nodes(self):
        for line in ("lay 0", "lay 0 1 2", "lay 0 0", "lay 0 1 / 2", "lay 0 1 / 1 2", "lay 0 1 / 2 3 / 0 2",
                     "lay 0 1 / 2 3 / 4 5", "lay 0 4", "move 0 1 2 to 0", "move 0 to 0", "move 0 1 2 3 4 to 0", "move 0 1 2 2 to 0",
                     "shuffle 0 1 2 3 / 0 1 2 3 to 0", "shuffle 1 0 2 3 / 0 1 2 3 to 0", "shuffle 0 1 to 0",
                     "shuffle 0 1 2 3 / 0 1 3 to 0", "turn 4 : 0 to 0", "turn 0 0 : 00 to 0", "turn 1 0 : 00 to 0",
                     "turn 0 : 00 to 0", "turn 0 1 : 0 to 0", "turn 0 : 1 to 0, 0 to 0", "turn 0 : 0 to 0, 0 to 0",
                     "turn 0 1 2 3 4 : 00000 to 0", "turn 0 : - to 0", "tell 000", "tell 0101"):
            self.bad_node(line)
        nine = " / ".join(("0 1 2 3", "0 1 3 2", "0 2 1 3", "0 2 3 1", "0 3 1 2", "0 3 2 1", "1 0 2 3",
                           "1 0 3 2", "1 2 0 3"))
        self.bad_node(f"shuffle {nine} to 0")

    def test_ends_of_two_kinds(self):
        self.bad(HEAD + GOOD + "tell 0\n", 3)
        self.bad(HEAD + GOOD + "lay 0 1 / 2 3\n" + GOOD, 4)
        self.bad(HEAD + "tell 00\ntell 0\n", 3)
        self.bad(HEAD + "tell 0\nlay 0 1\nlay 0 0\n", 3)
        self.bad(HEAD + "tell 0\nlay 0 0\nlay 0 1\n", 2)


class Samples(unittest.TestCase):
    def test_five(self):
        turned = ((0, 1, 1, 1, 0), (1, 1, 1, 0, 0), (1, 1, 0, 0, 1), (1, 0, 0, 1, 1), (0, 0, 1, 1, 1))
        other = ((0, 1, 1, 0, 1), (1, 1, 0, 1, 0), (1, 0, 1, 0, 1), (0, 1, 0, 1, 1), (1, 0, 1, 1, 0))
        ways = tuple(sorted([(sight, 3) for sight in turned] + [(sight, 4) for sight in other]))
        orders = ((0, 1, 2, 3, 4), (1, 2, 3, 4, 0), (2, 3, 4, 0, 1), (3, 4, 0, 1, 2), (4, 0, 1, 2, 3))
        nodes = (("move", (1, 0, 4, 2, 3), 1), ("shuffle", orders, 2), ("turn", (0, 1, 2, 3, 4), ways),
                 ("tell", (1,)), ("tell", (0,)))
        self.assertEqual(sample("five"), ((2, (1,), nodes), ((0,), (0,), (0,), (1,))))

    def test_double(self):
        nodes = (("shuffle", ((0, 1, 2, 3, 4, 5), (1, 0, 3, 2, 5, 4)), 1), ("turn", (0,), (((0,), 2), ((1,), 3))),
                 ("lay", ((2, 3), (4, 5))), ("lay", ((3, 2), (5, 4))))
        self.assertEqual(sample("double"), ((1, (0, 1, 0, 1), nodes), ((0, 0), (1, 1))))

    def test_again(self):
        nodes = (("shuffle", ((0, 1, 2, 3), (0, 1, 3, 2)), 1), ("turn", (2,), (((0,), 2), ((1,), 0))), ("lay", ((0, 1),)))
        self.assertEqual(sample("again"), ((1, (0, 1), nodes), ((0,), (1,))))

    def test_look(self):
        nodes = (("turn", (0,), (((0,), 1), ((1,), 1))), ("lay", ((0, 1),)))
        self.assertEqual(sample("look"), ((1, (), nodes), ((0,), (1,))))

    def test_all_are_ways(self):
        for name in ("five", "double", "again", "look"):
            self.assertTrue(is_way(sample(name)[0]))

    def test_other_values(self):
        for value in ODD_VALUES + ("Five", "five ", "six", b"five", ("five",), ["look"], {"look": 1}, 5, "four"):
            with self.assertRaises(BadNumber, msg=value):
                sample(value)
