"""Promise 8, info: what a line is, the name that it sets, the names that it uses, the headers around it."""

import unittest

from tests.asking import (
    EXAMPLE, FAR, RUN, SHOW, SIZE, TRACE, ask, ask_last, info, inputs, program, texts, values,
)

ASSIGNMENT, READ, WRITE, STOP, IF, WHILE = range(1, 7)


def told_as(kind, sets, names, headers):
    """What info answers of such a line."""
    told = [kind, len(sets)] + [ord(sign) for sign in sets]
    return told + texts(*names) + [len(headers)] + list(headers)


class InfoCase(unittest.TestCase):
    def assert_info(self, rows, *right):
        """Info of each line, in order, is as told: what it is, what it sets, what it uses, its headers."""
        with self.subTest(rows=rows):
            told = ask(program(*rows), *[info(line) for line in range(len(right) + 1)])
            self.assertEqual(told, [[len(right)]] + [told_as(*each) for each in right] + [[-3]])


class Kinds(InfoCase):
    def test_how_it_is_told(self):
        self.assertEqual(ask_last(program("ab = c + de"), info(0)), [1, 2, 97, 98, 2, 1, 99, 2, 100, 101, 0])
        self.assertEqual(ask_last(program("stop"), info(0)), [4, 0, 0, 0])
        self.assertEqual(ask_last(program("if a < b:", "  read c"), info(1)), [2, 1, 99, 0, 1, 0])

    def test_an_assignment(self):
        self.assert_info(("abcd = 7",), (ASSIGNMENT, "abcd", (), ()))
        self.assert_info(("a = b",), (ASSIGNMENT, "a", ("b",), ()))
        self.assert_info(("a = a",), (ASSIGNMENT, "a", ("a",), ()))
        for sign in "+-*":
            self.assert_info((f"a = 1 {sign} 99",), (ASSIGNMENT, "a", (), ()))
            self.assert_info((f"a = b {sign} 99",), (ASSIGNMENT, "a", ("b",), ()))
            self.assert_info((f"a = 1 {sign} b",), (ASSIGNMENT, "a", ("b",), ()))
            self.assert_info((f"a = b {sign} b",), (ASSIGNMENT, "a", ("b",), ()))
            self.assert_info((f"a = b {sign} c",), (ASSIGNMENT, "a", ("b", "c"), ()))
            self.assert_info((f"a = c {sign} b",), (ASSIGNMENT, "a", ("c", "b"), ()))
            self.assert_info((f"a = a {sign} abcd",), (ASSIGNMENT, "a", ("a", "abcd"), ()))

    def test_a_read_uses_no_names(self):
        self.assert_info(("read a", "read abcd"), (READ, "a", (), ()), (READ, "abcd", (), ()))

    def test_a_write(self):
        self.assert_info(("write 0", "write z", "write abcd"), (WRITE, "", (), ()), (WRITE, "", ("z",), ()),
                         (WRITE, "", ("abcd",), ()))

    def test_a_stop(self):
        self.assert_info(("stop", "stop"), (STOP, "", (), ()), (STOP, "", (), ()))

    def test_an_if_and_a_while(self):
        for word, kind in (("if", IF), ("while", WHILE)):
            for sign in ("<", "==", "!="):
                for atoms, names in ((("a", "b"), ("a", "b")), (("b", "a"), ("b", "a")), (("a", "a"), ("a",)),
                                     (("a", "3"), ("a",)), (("3", "abcd"), ("abcd",)), (("3", "3"), ())):
                    row = f"{word} {atoms[0]} {sign} {atoms[1]}:"
                    self.assert_info((row, "  stop"), (kind, "", names, ()), (STOP, "", (), (0,)))


class Headers(InfoCase):
    def test_in_a_block(self):
        self.assert_info(
            ("stop", "while a < 1:", "  a = 1", "  read b", "stop"),
            (STOP, "", (), ()), (WHILE, "", ("a",), ()), (ASSIGNMENT, "a", (), (1,)), (READ, "b", (), (1,)),
            (STOP, "", (), ()),
        )

    def test_in_the_block_of_an_else(self):
        self.assert_info(
            ("stop", "if a < b:", "  write a", "else:", "  write b", "  stop", "write c"),
            (STOP, "", (), ()), (IF, "", ("a", "b"), ()), (WRITE, "", ("a",), (1,)), (WRITE, "", ("b",), (1,)),
            (STOP, "", (), (1,)), (WRITE, "", ("c",), ()),
        )

    def test_three_deep_the_outermost_first(self):
        self.assert_info(
            ("write 1", "while a < 1:", "  write 2", "  if b == 1:", "    write 3", "    while c != d:",
             "      write 4", "    write 5", "  write 6", "write 7"),
            (WRITE, "", (), ()), (WHILE, "", ("a",), ()), (WRITE, "", (), (1,)), (IF, "", ("b",), (1,)),
            (WRITE, "", (), (1, 3)), (WHILE, "", ("c", "d"), (1, 3)), (WRITE, "", (), (1, 3, 5)),
            (WRITE, "", (), (1, 3)), (WRITE, "", (), (1,)), (WRITE, "", (), ()),
        )

    def test_three_deep_in_elses(self):
        self.assert_info(
            ("if a < b:", "  stop", "else:", "  if a < b:", "    stop", "  else:", "    if a < b:", "      stop",
             "    else:", "      write a", "    write b", "  write c", "write d"),
            (IF, "", ("a", "b"), ()), (STOP, "", (), (0,)), (IF, "", ("a", "b"), (0,)), (STOP, "", (), (0, 2)),
            (IF, "", ("a", "b"), (0, 2)), (STOP, "", (), (0, 2, 4)), (WRITE, "", ("a",), (0, 2, 4)),
            (WRITE, "", ("b",), (0, 2)), (WRITE, "", ("c",), (0,)), (WRITE, "", ("d",), ()),
        )

    def test_blocks_behind_one_another(self):
        self.assert_info(
            ("if a < b:", "  stop", "while a < b:", "  if a < b:", "    stop", "  if a < b:", "    stop"),
            (IF, "", ("a", "b"), ()), (STOP, "", (), (0,)), (WHILE, "", ("a", "b"), ()), (IF, "", ("a", "b"), (2,)),
            (STOP, "", (), (2, 3)), (IF, "", ("a", "b"), (2,)), (STOP, "", (), (2, 5)),
        )

    def test_the_example(self):
        self.assert_info(
            EXAMPLE,
            (READ, "a", (), ()), (ASSIGNMENT, "s", (), ()), (WHILE, "", ("a",), ()),
            (ASSIGNMENT, "s", ("s", "a"), (2,)), (ASSIGNMENT, "a", ("a",), (2,)), (IF, "", ("s",), (2,)),
            (WRITE, "", ("a",), (2, 5)), (WRITE, "", ("s",), ()),
        )

    def test_fourteen_lines(self):
        rows = ["if a < b:"] + ["  write a"] * 13
        self.assert_info(rows, (IF, "", ("a", "b"), ()), *[(WRITE, "", ("a",), (0,))] * 13)


class Refusals(unittest.TestCase):
    START = [program(*EXAMPLE), inputs(3)]
    AFTER = [RUN, SHOW, SIZE, values(7), TRACE, info(6)]

    def test_a_program_without_lines(self):
        self.assertEqual(ask(info(0), info(-1), info(1), info(FAR)), [[-3]] * 4)

    def test_below_0_and_behind_the_last_line(self):
        for line in (-1, -2, -8, -9, -FAR, 8, 9, 14, 1000, FAR):
            with self.subTest(line=line):
                self.assertEqual(ask_last(*self.START, info(line)), [-3])

    def test_the_first_and_the_last_line(self):
        for count in (1, 2, 14):
            rows = ["write 1"] * (count - 1) + ["stop"]
            told = ask(program(*rows), info(-1), info(0), info(count - 1), info(count))
            first = [3, 0, 0, 0] if count > 1 else [4, 0, 0, 0]
            self.assertEqual(told, [[count], [-3], first, [4, 0, 0, 0], [-3]])

    def test_lines_of_else_count_as_none(self):
        told = ask(program("if a == 0:", "  write 1", "else:", "  write b"), info(2), info(3))
        self.assertEqual(told[1:], [told_as(WRITE, "", ("b",), (0,)), [-3]])

    def test_it_changes_nothing_refused_or_not(self):
        right = ask(*self.START, *self.AFTER)[2:]
        for line, answer in ((3, told_as(ASSIGNMENT, "s", ("s", "a"), (2,))), (8, [-3]), (-1, [-3])):
            self.assertEqual(ask(*self.START, info(line), *self.AFTER)[2:], [answer] + right)

    def test_the_program_of_now(self):
        told = ask(program("stop"), info(0), program("read b"), info(0), program("read"), info(0), program(), info(0))
        self.assertEqual(told[1::2], [[4, 0, 0, 0], [2, 1, 98, 0, 0], [2, 1, 98, 0, 0], [-3]])

    def test_the_input_is_nothing_to_it(self):
        self.assertEqual(ask(inputs(4), program("read b"), info(0))[2], [2, 1, 98, 0, 0])


if __name__ == "__main__":
    unittest.main()
