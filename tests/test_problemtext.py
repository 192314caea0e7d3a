"""pinchworks.problemtext: point 4."""

import random
import unittest

from pinchworks.errors import InvalidText, NotText
from pinchworks.problemtext import read_problem, write_problem
from tests import oracles
from tests.faults import JUNK, Faults, problem_faults

STREAM = "stream 180 60 2\n"
BOX = "box 100 -40\n"


class TestThereAndBack(unittest.TestCase):
    def test_write(self):
        self.assertEqual(write_problem((((180, 60, 2), (0, 1000, 100)), (), 0)), "stream 180 60 2\nstream 0 1000 100\ngap 0")
        self.assertEqual(write_problem(((), ((0, 10000), (1000, -10000)), 100)), "box 0 10000\nbox 1000 -10000\ngap 100")

    def test_there_and_back(self):
        chance = random.Random(8)
        for _ in range(200):
            problem = oracles.random_problem(chance, 6, 4, span=1000, rate=100, heat=10000, gap=100)
            text = write_problem(problem)
            self.assertEqual(read_problem(text), problem, text)
            self.assertEqual(write_problem(read_problem(text)), text)

    def test_spaces_and_empty_lines(self):
        text = "\n   \n  stream   180  60   2   \n\n box 100   -40\n \n   gap 10\n\n    \n"
        self.assertEqual(read_problem(text), (((180, 60, 2),), ((100, -40),), 10))

    def test_most_lines(self):
        text = STREAM * 6 + BOX * 4 + "gap 100"
        self.assertEqual(read_problem(text), (((180, 60, 2),) * 6, ((100, -40),) * 4, 100))

    def test_streams_or_boxes_alone(self):
        self.assertEqual(read_problem(STREAM + "gap 0"), (((180, 60, 2),), (), 0))
        self.assertEqual(read_problem(BOX + "gap 0"), ((), ((100, -40),), 0))

    def test_a_box_of_equal_numbers(self):
        self.assertEqual(read_problem("box 5 5\nbox 1000 1000\ngap 5"), ((), ((5, 5), (1000, 1000)), 5))

    def test_limits_of_numbers(self):
        self.assertEqual(read_problem("stream 0 1000 1\nstream 1000 0 100\ngap 0")[0], ((0, 1000, 1), (1000, 0, 100)))
        self.assertEqual(read_problem("box 0 -10000\nbox 1000 10000\nbox 5 1\ngap 100")[1], ((0, -10000), (1000, 10000), (5, 1)))


class TestFaults(Faults, unittest.TestCase):
    def check(self, text, line, place):
        self.assert_fault(InvalidText(line, place), read_problem, text)

    def test_problems(self):
        for value, error in problem_faults():
            self.assert_fault(error, write_problem, value)

    def test_values_that_are_no_text(self):
        for value in JUNK:
            if not isinstance(value, str):
                self.assert_fault(NotText(), read_problem, value)

    def test_no_gap_line(self):
        self.check("", 1, 1)
        self.check(" ", 2, 1)
        self.check("\n", 3, 1)
        self.check("\n\n\n", 5, 1)
        self.check("stream 180 60 2", 2, 1)
        self.check(STREAM, 3, 1)
        self.check(STREAM + BOX, 4, 1)
        self.check(STREAM + "\n" + "box 100 -40", 4, 1)

    def test_first_words(self):
        for word in ["streams", "Stream", "STREAM", "strea", "flow", "0", "-", "gap10", "box,", "boxes", "\t", "stream\t1"]:
            self.check(word + " 180 60 2\ngap 0", 1, 1)
            self.check(STREAM + "\n" + word + "\ngap 0", 3, 1)

    def test_tabs_and_other_blanks_are_no_spaces(self):
        self.check("\tstream 180 60 2\ngap 0", 1, 1)
        self.check("stream\t180 60 2\ngap 0", 1, 1)
        self.check("stream 180\t60 2\ngap 0", 1, 2)
        self.check("stream 180 60 2\r\ngap 0", 1, 4)
        self.check("stream 180 60 2\ngap 0\r", 2, 2)
        self.check("stream 180 60 2\n\t\ngap 0", 2, 1)
        self.check("stream 180 60\u00a02\ngap 0", 1, 3)
        self.check("stream 180 60 2\x0cgap 0", 1, 4)

    def test_order_of_lines(self):
        self.check(BOX + STREAM + "gap 0", 2, 1)
        self.check(BOX + "stream x", 2, 1)
        self.check("gap 0", 1, 1)
        self.check("\n gap 0\n" + STREAM, 2, 1)
        self.check("gap", 1, 1)
        self.check(STREAM + "gap 0\n" + STREAM, 3, 1)
        self.check(STREAM + "gap 0\n" + BOX, 3, 1)
        self.check(STREAM + "gap 0\n\ngap 0", 4, 1)
        self.check(STREAM + "gap 0\n \nmore", 4, 1)

    def test_too_many_lines(self):
        self.check(STREAM * 7 + "gap 0", 7, 1)
        self.check(STREAM * 6 + "\nstream x\ngap 0", 8, 1)
        self.check(BOX * 5 + "gap 0", 5, 1)
        self.check(STREAM * 6 + BOX * 4 + "box\ngap 0", 11, 1)

    def test_too_few_words(self):
        self.check("stream\ngap 0", 1, 2)
        self.check("stream 180\ngap 0", 1, 3)
        self.check("  stream   180  60  \ngap 0", 1, 4)
        self.check("box\ngap 0", 1, 2)
        self.check("box 100\ngap 0", 1, 3)
        self.check(STREAM + "gap", 2, 2)

    def test_too_many_words(self):
        self.check("stream 180 60 2 2\ngap 0", 1, 5)
        self.check("stream 180 60 2 2 2\ngap 0", 1, 5)
        self.check("box 100 -40 box\ngap 0", 1, 4)
        self.check(STREAM + "gap 0 0", 2, 3)
        self.check(STREAM + "gap 0 gap 0", 2, 3)

    def test_equal_start_and_goal(self):
        self.check("stream 20 20\ngap 0", 1, 3)
        self.check("stream 20 20 x\ngap 0", 1, 3)
        self.check("stream 0 0 1 1\ngap 0", 1, 3)
        self.check(STREAM + "stream 1000 1000 1\ngap 0", 2, 3)

    def test_words_that_are_no_numbers(self):
        bad = ["x", "-1", "-0", "+1", "1.0", "1_0", "00", "01", "007", "0x1", "1e1", "--1", "-", "\u0661", "\u00b2", "\uff11",
               "9" * 5000, "0" * 5000, "1" + "0" * 30, "None", "True", "1,", "'1'"]
        for word in bad + ["1001"]:
            self.check(f"stream {word} 60 2\ngap 0", 1, 2)
            self.check(f"stream 180 {word} 2\ngap 0", 1, 3)
            self.check(f"box {word} 5\ngap 0", 1, 2)
        for word in bad + ["101", "0"]:
            self.check(f"stream 180 60 {word}\ngap 0", 1, 4)
        for word in bad + ["101"]:
            self.check(f"{STREAM}gap {word}", 2, 2)

    def test_heats(self):
        for word in ["0", "-0", "00", "-", "--5", "-05", "05", "+5", "10001", "-10001", "5-", "- 5", "9" * 5000, "-" + "9" * 5000]:
            self.check(f"{STREAM}box 100 {word}\ngap 0", 2, 3)

    def test_first_fault_is_told(self):
        self.check("stream x y z\nstream\ngap", 1, 2)
        self.check("stream 1 2 3\nbox x 0\nstream", 2, 2)
        self.check("stream 1 2\nother", 1, 4)


if __name__ == "__main__":
    unittest.main()
