"""Promise 10, runonly: the account of the run of some lines alone, on the object's input."""

import unittest

from tests.asking import (
    ELSES, EXAMPLE, FAR, NO_LISTS, RUN, SHOW, SIZE, TRACE, ask, ask_last, inputs, lists_of_lines, only, program,
    program_of, runonly, values,
)


class RunonlyCase(unittest.TestCase):
    def assert_account(self, rows, lines, right, numbers=()):
        with self.subTest(rows=rows, lines=lines, numbers=numbers):
            self.assertEqual(ask_last(program(*rows), inputs(*numbers), runonly(*lines)), right)


class Lines(RunonlyCase):
    def test_all_lines(self):
        for rows, count in ((EXAMPLE, 8), (ELSES, 11), (("stop",), 1), ((), 0), (("while 0 == 0:", "  write 1"), 2)):
            for numbers in ((), (1,), (2,), (3, 4), (30,), (999,)):
                right = ask_last(program(*rows), inputs(*numbers), RUN)
                self.assert_account(rows, range(count), right, numbers)

    def test_no_lines(self):
        for rows in (EXAMPLE, ("stop",), ("while 0 == 0:", "  write 1"), ()):
            self.assert_account(rows, (), [0, 0, 0], (3,))
        self.assertEqual(ask(runonly()), [[0, 0, 0]])

    def test_some_lines_of_no_block(self):
        rows = ("a = 1", "a = a + 1", "write a", "stop", "write 9")
        self.assert_account(rows, (0, 2, 3, 4), [1, 3, 1, 1])
        self.assert_account(rows, (1, 2), [0, 2, 1, 1])
        self.assert_account(rows, (0, 1, 2, 4), [0, 4, 2, 2, 9])
        self.assert_account(rows, (2, 4), [0, 2, 2, 0, 9])
        self.assert_account(rows, (3,), [1, 1, 0])

    def test_the_first_number_goes_to_the_first_read_that_is_left(self):
        rows = ("read a", "read b", "read c", "write a", "write b", "write c")
        self.assert_account(rows, (1, 3, 4, 5), [0, 4, 3, 0, 7, 0], (7, 8))
        self.assert_account(rows, (0, 2, 3, 4, 5), [0, 5, 3, 7, 0, 8], (7, 8))
        self.assert_account(rows, (3, 4, 5), [0, 3, 3, 0, 0, 0], (7, 8))

    def test_lines_in_a_header_that_is_not_among_them(self):
        rows = ("if 0 == 0:", "  write 1", "  if 0 == 0:", "    write 2", "    stop", "write 3")
        self.assert_account(rows, (1, 5), [0, 1, 1, 3])
        self.assert_account(rows, (1, 2, 3, 4, 5), [0, 1, 1, 3])
        self.assert_account(rows, (0, 3, 4, 5), [0, 2, 1, 3])
        self.assert_account(rows, (0, 1, 2, 3, 5), [0, 5, 3, 1, 2, 3])
        self.assert_account(("while 0 == 0:", "  write 1"), (1,), [0, 0, 0])

    def test_the_example(self):
        self.assert_account(EXAMPLE, (0, 1, 2, 3, 4, 7), [0, 13, 1, 6], (3,))
        self.assert_account(EXAMPLE, (0, 1, 7), [0, 3, 1, 0], (3,))
        self.assert_account(EXAMPLE, (0, 2, 4, 7), [0, 9, 1, 0], (3,))
        self.assert_account(EXAMPLE, (0, 2, 4, 5, 6, 7), [0, 12, 1, 0], (3,))


class EmptyBlocks(RunonlyCase):
    def test_a_while_that_holds(self):
        self.assert_account(("while 0 == 0:", "  stop"), (0,), [2, 120, 0])
        self.assert_account(("write 1", "while 0 == 0:", "  stop", "write 2"), (0, 1, 3), [2, 120, 1, 1])
        self.assert_account(EXAMPLE, (0, 2, 7), [2, 120, 0], (1,))

    def test_a_while_that_does_not_hold(self):
        self.assert_account(("while 0 != 0:", "  stop", "write 2"), (0, 2), [0, 2, 1, 2])
        self.assert_account(EXAMPLE, (0, 2, 7), [0, 3, 1, 0], (0,))
        self.assert_account(EXAMPLE, (2, 7), [0, 2, 1, 0], (3,))

    def test_a_while_in_a_while(self):
        rows = ("while 0 == 0:", "  while a < 1:", "    a = a + 1", "  write a")
        self.assert_account(rows, (0, 3), [2, 120, 60] + [0] * 60)
        self.assert_account(rows, (0, 1, 3), [2, 120, 0])
        self.assert_account(rows, (0, 1), [2, 120, 0])

    def test_an_if(self):
        for sign in ("==", "!="):
            self.assert_account((f"if 0 {sign} 0:", "  write 1", "write 2"), (0, 2), [0, 2, 1, 2])
            rows = (f"if 0 {sign} 0:", "  write 1", "else:", "  write 2", "write 3")
            self.assert_account(rows, (0, 3), [0, 2, 1, 3])

    def test_an_if_with_its_else_alone(self):
        rows = ("read a", "if a == 1:", "  write 1", "else:", "  write 2", "write 3")
        self.assert_account(rows, (0, 1, 3, 4), [0, 3, 1, 3], (1,))
        self.assert_account(rows, (0, 1, 3, 4), [0, 4, 2, 2, 3], (2,))

    def test_an_if_without_its_else(self):
        rows = ("read a", "if a == 1:", "  write 1", "else:", "  write 2", "write 3")
        self.assert_account(rows, (0, 1, 2, 4), [0, 4, 2, 1, 3], (1,))
        self.assert_account(rows, (0, 1, 2, 4), [0, 3, 1, 3], (2,))

    def test_elses_in_an_else(self):
        self.assert_account(ELSES, (0, 1, 3, 5, 6, 7), [0, 13, 3, 3, 2, 1], (3,))
        self.assert_account(ELSES, (0, 1, 3, 4, 9, 10), [0, 5, 2, 7, 8], (3,))
        self.assert_account(ELSES, (0, 1, 3, 5, 9, 10), [2, 120, 0], (3,))
        self.assert_account(ELSES, (0, 1, 5, 6, 7, 8, 9, 10), [0, 4, 2, 7, 8], (3,))


class StoppedAndLong(RunonlyCase):
    def test_a_stop_that_is_taken_out(self):
        rows = ("write 1", "if a == 0:", "  stop", "write 2")
        self.assert_account(rows, (0, 1, 2, 3), [1, 3, 1, 1])
        self.assert_account(rows, (0, 1, 3), [0, 3, 2, 1, 2])
        self.assert_account(rows, (0, 2, 3), [0, 2, 2, 1, 2])

    def test_a_stop_that_is_reached_with_lines_taken_out_alone(self):
        self.assert_account(("a = 1", "if a == 0:", "  stop", "write 2"), (1, 2, 3), [1, 2, 0])

    def test_a_long_run_that_is_not_with_lines_taken_out(self):
        rows = ("n = 59", "while n != 0:", "  n = n - 1", "write 1")
        self.assert_account(rows, (0, 1, 2, 3), [2, 120, 0])
        self.assert_account(rows, (0, 1, 2), [0, 120, 0])
        self.assert_account(rows, (1, 2, 3), [0, 2, 1, 1])
        self.assert_account(rows, (0, 3), [0, 2, 1, 1])

    def test_a_run_that_is_long_with_lines_taken_out_alone(self):
        rows = ("while a < 1:", "  write a", "  a = a + 1", "write 9")
        self.assert_account(rows, (0, 1, 2, 3), [0, 5, 2, 0, 9])
        self.assert_account(rows, (0, 1, 3), [2, 120, 60] + [0] * 60)


class EveryList(unittest.TestCase):
    def test_it_is_the_run_of_what_only_tells_where_that_is_a_program(self):
        for rows, count, numbers in ((EXAMPLE, 8, (3,)), (EXAMPLE, 8, (0, 7)), (ELSES, 11, (1,)), (ELSES, 11, (3,))):
            compared = 0
            for lines in lists_of_lines(count):
                start = [program(*rows), inputs(*numbers)]
                left, told = ask(*start, only(*lines), runonly(*lines))[2:]
                taken, _, right = ask(program_of(left[1:]), inputs(*numbers), RUN)
                if taken != [-1]:
                    self.assertEqual(told, right, (rows, lines, numbers))
                    compared += 1
            # Where a block is empty the text is no program's, so not all can be compared.
            self.assertLess(compared, 2 ** count)
            self.assertGreater(compared, 2 ** count // 4)


class Input(unittest.TestCase):
    def test_the_program_and_the_input_of_now(self):
        told = ask(program("read a", "write a"), runonly(0, 1), inputs(5), runonly(0, 1), runonly(0, 1), runonly(1),
                   inputs(6, 7), runonly(0, 1), program("write 3", "stop"), runonly(1), program("go"), runonly(0))
        self.assertEqual(told, [
            [2], [0, 2, 1, 0], [1], [0, 2, 1, 5], [0, 2, 1, 5], [0, 1, 1, 0], [2], [0, 2, 1, 6], [2], [1, 1, 0], [-1],
            [0, 1, 1, 3],
        ])


class Refusals(unittest.TestCase):
    START = [program(*EXAMPLE), inputs(3)]
    AFTER = [RUN, SHOW, SIZE, values(7), TRACE, only(0, 2, 4), runonly(0, 1, 7)]

    def test_what_is_no_list_of_lines(self):
        for lines in NO_LISTS:
            with self.subTest(lines=lines):
                self.assertEqual(ask_last(*self.START, runonly(*lines)), [-4])

    def test_a_program_without_lines(self):
        for lines in ([0], [-1], [1], [FAR], [0, 1]):
            self.assertEqual(ask(runonly(*lines)), [[-4]])

    def test_the_last_line_and_one_behind_it(self):
        for count in (1, 2, 14):
            rows = ["stop"] * (count - 1) + ["write 1"]
            told = ask(program(*rows), runonly(count - 1), runonly(count), runonly(count - 1, count))
            self.assertEqual(told, [[count], [0, 1, 1, 1], [-4], [-4]])

    def test_it_changes_nothing_refused_or_not(self):
        right = ask(*self.START, *self.AFTER)[2:]
        for lines, answer in (((), [0, 0, 0]), ((1, 7), [0, 2, 1, 0]), (range(8), [0, 17, 2, 2, 6]), ((8,), [-4]),
                              ((1, 0), [-4])):
            self.assertEqual(ask(*self.START, runonly(*lines), *self.AFTER)[2:], [answer] + right)


if __name__ == "__main__":
    unittest.main()
