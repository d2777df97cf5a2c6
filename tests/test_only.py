"""Promise 9, only: the text of the program with some lines alone."""

import unittest

from tests.asking import (
    ELSES, EXAMPLE, FAR, NO_LISTS, RUN, SHOW, SIZE, TRACE, ask, ask_last, inputs, lists_of_lines, only, program,
    shown, values,
)


class OnlyCase(unittest.TestCase):
    def assert_left(self, rows, lines, *left):
        """Of these rows with these lines alone, such rows are left."""
        with self.subTest(rows=rows, lines=lines):
            self.assertEqual(ask_last(program(*rows), only(*lines)), shown(*left))


class Lines(OnlyCase):
    def test_its_bytes_behind_how_many_they_are(self):
        self.assertEqual(ask_last(program("stop", "a = 1"), only(1)), [6, 97, 32, 61, 32, 49, 10])

    def test_all_lines(self):
        for rows, count in ((EXAMPLE, 8), (ELSES, 11), (("stop",) * 14, 14), (("stop",), 1), ((), 0)):
            self.assert_left(rows, range(count), *rows)

    def test_every_sign_of_a_program(self):
        rows = (
            "abcd = efgh + 12", "ijkl = mnop - 34", "qrst = uvwx * 56", "yz = 7", "read abcd", "write 89",
            "if 0 < 1:", "  while a == b:", "    if c != d:", "      stop", "    else:", "      write e",
            "else:", "  stop", "write 0",
        )
        self.assert_left(rows, range(13), *rows)

    def test_no_lines(self):
        for rows in (EXAMPLE, ELSES, ("stop",), ()):
            self.assertEqual(ask_last(program(*rows), only()), [0])
        self.assertEqual(ask(only()), [[0]])

    def test_some_lines_of_no_block(self):
        rows = ("a = 1", "read b", "write c", "stop")
        self.assert_left(rows, (0,), "a = 1")
        self.assert_left(rows, (3,), "stop")
        self.assert_left(rows, (0, 2), "a = 1", "write c")
        self.assert_left(rows, (1, 2, 3), "read b", "write c", "stop")

    def test_a_header_without_what_is_in_it(self):
        self.assert_left(EXAMPLE, (2,), "while 0 < a:")
        self.assert_left(EXAMPLE, (2, 7), "while 0 < a:", "write s")
        self.assert_left(EXAMPLE, (2, 5), "while 0 < a:", "  if s == 3:")
        self.assert_left(ELSES, (1,), "if a == 1:")

    def test_a_header_with_some_of_what_is_in_it(self):
        self.assert_left(EXAMPLE, (0, 2, 4), "read a", "while 0 < a:", "  a = a - 1")
        self.assert_left(EXAMPLE, (2, 3), "while 0 < a:", "  s = s + a")
        self.assert_left(EXAMPLE, (2, 5, 6), "while 0 < a:", "  if s == 3:", "    write a")

    def test_lines_in_a_header_that_is_not_among_them(self):
        self.assert_left(EXAMPLE, (3, 4))
        self.assert_left(EXAMPLE, (0, 1, 3, 4, 5, 6, 7), "read a", "s = 0", "write s")
        self.assert_left(EXAMPLE, (2, 3, 6), "while 0 < a:", "  s = s + a")
        self.assert_left(EXAMPLE, (5, 6, 7), "write s")
        self.assert_left(ELSES, (0, 2, 9, 10), "read a", "write 8")
        self.assert_left(ELSES, (1, 5, 6, 7, 9), "if a == 1:", "else:", "  write 7")


class Elses(OnlyCase):
    def test_a_block_without_its_elses(self):
        self.assert_left(ELSES, (1, 2), "if a == 1:", "  write 1")
        self.assert_left(ELSES, (0, 1, 2, 10), "read a", "if a == 1:", "  write 1", "write 8")

    def test_an_elses_block_alone(self):
        self.assert_left(ELSES, (1, 9), "if a == 1:", "else:", "  write 7")
        self.assert_left(ELSES, (1, 3), "if a == 1:", "else:", "  if a == 2:")
        self.assert_left(ELSES, (1, 3, 8), "if a == 1:", "else:", "  if a == 2:", "  else:", "    write 4")
        self.assert_left(("if a < b:", "  stop", "else:", "  write 1"), (0, 1), "if a < b:", "  stop")
        self.assert_left(("if a < b:", "  stop", "else:", "  write 1"), (0, 2), "if a < b:", "else:", "  write 1")

    def test_an_else_whose_lines_stand_in_a_header_that_is_taken_out(self):
        self.assert_left(ELSES, (1, 4, 5, 6, 7, 8), "if a == 1:")
        self.assert_left(ELSES, (1, 2, 4, 8), "if a == 1:", "  write 1")
        self.assert_left(ELSES, (1, 3, 6, 7), "if a == 1:", "else:", "  if a == 2:")
        self.assert_left(ELSES, (1, 3, 4, 6), "if a == 1:", "else:", "  if a == 2:", "    write 2")

    def test_both_blocks_in_part(self):
        self.assert_left(ELSES, (1, 2, 9), "if a == 1:", "  write 1", "else:", "  write 7")
        self.assert_left(ELSES, (1, 3, 4, 5, 7), "if a == 1:", "else:", "  if a == 2:", "    write 2", "  else:",
                         "    while a != 0:", "      a = a - 1")
        self.assert_left(ELSES, (1, 3, 5, 9, 10), "if a == 1:", "else:", "  if a == 2:", "  else:",
                         "    while a != 0:", "  write 7", "write 8")

    def test_elses_of_inner_and_outer_ifs(self):
        rows = ("if a < b:", "  if c < d:", "    write 1", "  else:", "    write 2", "else:", "  if e < f:",
                "    write 3", "  else:", "    write 4")
        self.assert_left(rows, (0, 1, 3), "if a < b:", "  if c < d:", "  else:", "    write 2")
        self.assert_left(rows, (0, 1, 4), "if a < b:", "  if c < d:", "else:", "  if e < f:")
        self.assert_left(rows, (0, 3, 4, 6), "if a < b:", "else:", "  if e < f:", "  else:", "    write 4")
        self.assert_left(rows, (0, 2, 5, 6), "if a < b:")
        self.assert_left(rows, (1, 2, 3, 4, 5, 6))

    def test_ifs_behind_one_another(self):
        rows = ("if a < b:", "  write 1", "else:", "  write 2", "if c < d:", "  write 3", "else:", "  write 4")
        self.assert_left(rows, (0, 1, 3, 5), "if a < b:", "  write 1", "if c < d:", "else:", "  write 4")
        self.assert_left(rows, (0, 2, 4), "if a < b:", "else:", "  write 2")

    def test_three_deep(self):
        rows = ("if a < b:", "  stop", "else:", "  if a < b:", "    stop", "  else:", "    if a < b:", "      stop",
                "    else:", "      write a")
        self.assert_left(rows, (0, 2, 4, 6), "if a < b:", "else:", "  if a < b:", "  else:", "    if a < b:",
                         "    else:", "      write a")
        self.assert_left(rows, (0, 2, 4), "if a < b:", "else:", "  if a < b:", "  else:", "    if a < b:")
        self.assert_left(rows, (0, 2, 6), "if a < b:", "else:", "  if a < b:")


class EveryList(unittest.TestCase):
    def test_rows_that_are_left_stand_in_the_text_in_their_order(self):
        for rows, count in ((EXAMPLE, 8), (ELSES, 11)):
            for lines in lists_of_lines(count):
                told = ask_last(program(*rows), only(*lines))
                left = "".join(chr(byte) for byte in told[1:]).split("\n")[:-1]
                rest = iter(rows)
                self.assertTrue(all(row in rest for row in left), (rows, lines, left))


class Refusals(unittest.TestCase):
    START = [program(*EXAMPLE), inputs(3)]
    AFTER = [RUN, SHOW, SIZE, values(7), TRACE, only(0, 2, 4)]

    def test_what_is_no_list_of_lines(self):
        for lines in NO_LISTS:
            with self.subTest(lines=lines):
                self.assertEqual(ask_last(*self.START, only(*lines)), [-4])

    def test_a_program_without_lines(self):
        for lines in ([0], [-1], [1], [FAR], [0, 1]):
            self.assertEqual(ask(only(*lines)), [[-4]])

    def test_the_last_line_and_one_behind_it(self):
        for count in (1, 2, 14):
            rows = ["stop"] * (count - 1) + ["write 1"]
            told = ask(program(*rows), only(count - 1), only(count), only(count - 1, count))
            self.assertEqual(told, [[count], shown("write 1"), [-4], [-4]])

    def test_lines_of_else_count_as_none(self):
        told = ask(program("if a == 0:", "  write 1", "else:", "  write 2"), only(0, 2), only(0, 3), only(3))
        self.assertEqual(told[1:], [shown("if a == 0:", "else:", "  write 2"), [-4], [-4]])

    def test_it_changes_nothing_refused_or_not(self):
        right = ask(*self.START, *self.AFTER)[2:]
        for lines, answer in (((), [0]), ((1,), shown("s = 0")), (range(8), shown(*EXAMPLE)), ((8,), [-4]),
                              ((1, 0), [-4])):
            self.assertEqual(ask(*self.START, only(*lines), *self.AFTER)[2:], [answer] + right)

    def test_the_program_of_now(self):
        told = ask(program("stop", "write 1"), only(1), program("read b"), only(1), only(0), program("read"), only(0))
        self.assertEqual(told, [[2], shown("write 1"), [1], [-4], shown("read b"), [-1], shown("read b")])


if __name__ == "__main__":
    unittest.main()
