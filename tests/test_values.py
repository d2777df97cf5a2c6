"""Promise 5, values: the row of values at a line in the run."""

import unittest

from tests.asking import EXAMPLE, RUN, SHOW, SIZE, ask, ask_last, inputs, program, values

FAR = 10 ** 18


def all_values(rows, numbers=()):
    """The row of values at each line of these rows, in a run on this input."""
    told = ask(program(*rows), inputs(*numbers))
    told = ask(program(*rows), inputs(*numbers), *[values(line) for line in range(told[0][0])])[2:]
    for row in told:
        if row[0] != len(row) - 1:
            raise AssertionError(f"no list: {row}")
    return [row[1:] for row in told]


class Values(unittest.TestCase):
    def test_each_kind_of_statement(self):
        rows = ("a = 7", "b = a * 3", "read c", "write c", "write b", "if b == 21:", "  write 4", "while a < 9:",
                "  a = a + 1", "stop")
        self.assertEqual(all_values(rows, (999,)),
                         [[7], [21], [999], [999], [21], [1], [4], [1, 1, 0], [8, 9], [0]])

    def test_lines_that_were_not_reached(self):
        rows = ("if a != 0:", "  write 1", "while a != 0:", "  a = 2", "stop", "write 3")
        self.assertEqual(all_values(rows), [[0], [], [0], [], [0], []])

    def test_tests_that_hold_and_that_do_not(self):
        rows = ("if a < 1:", "  b = 5", "if a == 1:", "  b = 6", "if a != 1:", "  b = 7")
        self.assertEqual(all_values(rows), [[1], [5], [0], [], [1], [7]])

    def test_reads_behind_the_end(self):
        self.assertEqual(all_values(("a = 4", "read a", "read a", "read a"), (5,)), [[4], [5], [0], [0]])

    def test_values_beyond_999_and_below_0(self):
        rows = ("read a", "b = a + 1", "c = 0 - 1", "d = a * a", "e = 99 * 99")
        self.assertEqual(all_values(rows, (999,)), [[999], [0], [999], [1], [801]])

    def test_the_numbers_of_lines_beside_lines_of_else(self):
        rows = ("if a == 0:", "  if a == 1:", "    write 11", "  else:", "    write 12", "  write 13", "else:",
                "  write 14", "write 15", "if a == 1:", "  write 16", "else:", "  write 17", "write 18")
        self.assertEqual(all_values(rows), [[1], [0], [], [12], [13], [], [15], [0], [], [17], [18]])

    def test_a_while_come_to_anew(self):
        rows = ("while i < 2:", "  j = 0", "  while j < i:", "    j = j + 1", "  i = i + 1")
        self.assertEqual(all_values(rows), [[1, 1, 0], [0, 0], [0, 1, 0], [1], [1, 2]])

    def test_a_long_run(self):
        rows = ("while 0 == 0:", "  a = a + 1", "  b = a * a", "write 1")
        told = all_values(rows)
        self.assertEqual(told[0], [1] * 40)
        self.assertEqual(told[1], list(range(1, 41)))
        self.assertEqual(told[2], [number * number % 1000 for number in range(1, 41)])
        self.assertEqual(told[3], [])

    def test_a_long_run_that_stands_still_within_a_block(self):
        rows = ("a = 0", "while 0 == 0:", "  a = a + 1", "  b = a + a")
        told = all_values(rows)
        self.assertEqual([len(row) for row in told], [1, 40, 40, 39])
        self.assertEqual(told[3], [2 * number for number in range(1, 40)])


class Refusals(unittest.TestCase):
    def assert_refused(self, rows, line):
        with self.subTest(rows=rows, line=line):
            self.assertEqual(ask(program(*rows), values(line), RUN)[1:], [[-3], ask_last(program(*rows), RUN)])

    def test_a_program_without_lines(self):
        self.assertEqual(ask(values(0), values(-1), values(1)), [[-3], [-3], [-3]])

    def test_behind_the_last_line(self):
        for count in (1, 2, 14):
            rows = ["write 1"] * count
            self.assertEqual(ask_last(program(*rows), values(count - 1)), [1, 1])
            for line in (count, count + 1, 100, FAR):
                self.assert_refused(rows, line)

    def test_below_0(self):
        for line in (-1, -2, -3, -FAR):
            self.assert_refused(["write 1", "write 2", "write 3"], line)

    def test_lines_of_else_count_as_none(self):
        rows = ["if a == 0:", "  write 1", "else:", "  write 2"]
        self.assertEqual(ask_last(program(*rows), values(2)), [0])
        self.assert_refused(rows, 3)

    def test_a_refusal_leaves_everything(self):
        start = [program(*EXAMPLE), inputs(3)]
        after = [RUN, SHOW, SIZE, values(7)]
        right = ask(*start, *after)[2:]
        for line in (8, -1):
            self.assertEqual(ask(*start, values(line), *after)[2:], [[-3]] + right)

    def test_the_program_of_now(self):
        told = ask(program("write 1", "write 2"), values(1), program("write 3"), values(1), program("go"), values(0))
        self.assertEqual(told, [[2], [1, 2], [1], [-3], [-1], [1, 3]])


class Input(unittest.TestCase):
    def test_the_input_of_now(self):
        told = ask(program("read a"), values(0), inputs(4), values(0), values(0), inputs(5), values(0))
        self.assertEqual(told, [[1], [1, 0], [1], [1, 4], [1, 4], [1], [1, 5]])


if __name__ == "__main__":
    unittest.main()
