"""Promise 7, step: what the trace tells of one step, and the names that it uses."""

import unittest

from tests.asking import (
    EXAMPLE, FAR, RUN, SHOW, SIZE, TRACE, ask, ask_last, inputs, program, step, texts, trace_of, values,
)

READ_ALONE = texts("")
NO_NAMES = texts()


def steps_of(rows, numbers=()):
    """What step tells of each step of these rows' run on this input."""
    count = len(trace_of(rows, numbers))
    return ask(program(*rows), inputs(*numbers), *[step(number) for number in range(count)])[2:]


class Steps(unittest.TestCase):
    def test_a_read_has_one_text_and_it_is_empty(self):
        self.assertEqual(READ_ALONE, [1, 0])
        self.assertEqual(steps_of(("read a", "read b", "read a"), (5, 6)), [
            [0, 5, 0, 1, 0, 1, 0],
            [1, 6, 0, 1, 1, 1, 0],
            [2, 0, 0, 1, 2, 1, 0],
        ])

    def test_a_read_behind_the_inputs_end_is_the_last_before_for_the_next(self):
        self.assertEqual(steps_of(("read a", "read a", "read a"), (4,)), [
            [0, 4, 0, 1, 0] + READ_ALONE, [1, 0, 0, 1, 1] + READ_ALONE, [2, 0, 0, 1, 2] + READ_ALONE,
        ])

    def test_an_assignment(self):
        rows = ("ab = 1", "c = ab", "c = ab + c", "c = c - ab", "c = 3 * c", "c = ab - 3", "c = 4 + 5", "c = none")
        self.assertEqual(steps_of(rows), [
            [0, 1, 0, 0] + NO_NAMES,
            [1, 1, 0, 1, 1] + texts("ab"),
            [2, 2, 0, 2, 1, 2] + texts("ab", "c"),
            [3, 1, 0, 2, 3, 1] + texts("c", "ab"),
            [4, 3, 0, 1, 4] + texts("c"),
            [5, 998, 0, 1, 1] + texts("ab"),
            [6, 9, 0, 0] + NO_NAMES,
            [7, 0, 0, 1, 0] + texts("none"),
        ])

    def test_an_assignment_with_one_name_twice(self):
        self.assertEqual(steps_of(("a = 3", "a = a * a", "b = z + z")), [
            [0, 3, 0, 0] + NO_NAMES, [1, 9, 0, 1, 1] + texts("a"), [2, 0, 0, 1, 0] + texts("z"),
        ])

    def test_a_write(self):
        self.assertEqual(steps_of(("write 7", "write abcd", "abcd = 6", "write abcd")), [
            [0, 7, 0, 0] + NO_NAMES,
            [1, 0, 0, 1, 0] + texts("abcd"),
            [2, 6, 0, 0] + NO_NAMES,
            [3, 6, 0, 1, 3] + texts("abcd"),
        ])

    def test_a_test_with_two_names_with_one_twice_with_one_and_with_none(self):
        rows = ("a = 1", "if b < a:", "  if a == a:", "    while 2 != a:", "      a = 2", "if 0 != 0:", "  stop")
        self.assertEqual(steps_of(rows), [
            [0, 1, 0, 0] + NO_NAMES,
            [1, 1, 0, 2, 0, 1] + texts("b", "a"),
            [2, 1, 2, 1, 1] + texts("a"),
            [3, 1, 3, 1, 1] + texts("a"),
            [4, 2, 4, 0] + NO_NAMES,
            [3, 0, 4, 1, 5] + texts("a"),
            [5, 0, 0, 0] + NO_NAMES,
        ])

    def test_a_stop(self):
        self.assertEqual(steps_of(("if a == 0:", "  stop", "write 1")), [
            [0, 1, 0, 1, 0] + texts("a"), [1, 0, 1, 0] + NO_NAMES,
        ])

    def test_a_whiles_test_asked_again(self):
        rows = ("while i < n:", "  i = i + 1", "write i")
        self.assertEqual(steps_of(("n = 2",) + rows)[1:], [
            [1, 1, 0, 2, 0, 1] + texts("i", "n"),
            [2, 1, 2, 1, 0] + texts("i"),
            [1, 1, 2, 2, 3, 1] + texts("i", "n"),
            [2, 2, 4, 1, 3] + texts("i"),
            [1, 0, 4, 2, 5, 1] + texts("i", "n"),
            [3, 2, 0, 1, 5] + texts("i"),
        ])

    def test_a_while_come_to_anew(self):
        rows = ("while i < 2:", "  while j < 1:", "    j = 1", "  j = 0", "  i = i + 1")
        told = steps_of(rows)
        self.assertEqual(told[1], [1, 1, 1, 1, 0] + texts("j"))
        self.assertEqual(told[3], [1, 0, 2, 1, 3] + texts("j"))
        self.assertEqual(told[7], [1, 1, 7, 1, 5] + texts("j"))

    def test_in_the_block_of_an_else(self):
        rows = ("if a != 0:", "  write 1", "else:", "  b = a + 2", "  read a")
        self.assertEqual(steps_of(rows, (8,)), [
            [0, 0, 0, 1, 0] + texts("a"), [2, 2, 1, 1, 0] + texts("a"), [3, 8, 1, 1, 0] + READ_ALONE,
        ])

    def test_what_trace_tells_of_it(self):
        for rows, numbers in ((EXAMPLE, (3,)), (EXAMPLE, (25,)), (("read a", "while 0 == 0:", "  a = a * b"), (2,))):
            traced = trace_of(rows, numbers)
            for number, told in enumerate(steps_of(rows, numbers)):
                line, value, let_by, origins = traced[number]
                right = [line, value, let_by, len(origins)] + origins
                self.assertEqual(told[:len(right)], right)
                self.assertEqual(told[len(right)], len(origins))


class Numbers(unittest.TestCase):
    def assert_step(self, number, right, rows, numbers=()):
        with self.subTest(rows=rows, number=number):
            self.assertEqual(ask_last(program(*rows), inputs(*numbers), step(number)), right)

    def test_a_program_without_lines(self):
        for number in (0, 1, -1, FAR, -FAR):
            self.assertEqual(ask(step(number)), [[-2]])

    def test_below_0(self):
        for number in (-1, -2, -17, -18, -FAR):
            self.assert_step(number, [-2], EXAMPLE, (3,))

    def test_the_first_the_last_and_those_behind_it(self):
        self.assert_step(0, [0, 3, 0, 1, 0] + READ_ALONE, EXAMPLE, (3,))
        self.assert_step(16, [7, 6, 0, 1, 13] + texts("s"), EXAMPLE, (3,))
        for number in (17, 18, 120, 1000, FAR):
            self.assert_step(number, [-2], EXAMPLE, (3,))

    def test_steps_and_not_lines_are_counted(self):
        self.assert_step(1, [-2], ("stop", "write 1"))
        rows = ("if a != 0:", "  stop", "write 5", "write 6")
        self.assert_step(1, [2, 5, 0, 0] + NO_NAMES, rows)
        self.assert_step(2, [3, 6, 0, 0] + NO_NAMES, rows)
        self.assert_step(3, [-2], rows)

    def test_a_stopped_run(self):
        rows = ("write 1", "stop", "write 2")
        self.assert_step(1, [1, 0, 0, 0] + NO_NAMES, rows)
        self.assert_step(2, [-2], rows)

    def test_a_long_run(self):
        rows = ("while 0 == 0:", "  a = a + 1")
        self.assert_step(118, [0, 1, 117, 0] + NO_NAMES, rows)
        self.assert_step(119, [1, 60, 119, 1, 118] + texts("a"), rows)
        self.assert_step(120, [-2], rows)
        self.assert_step(121, [-2], rows)

    def test_the_program_and_the_input_of_now(self):
        told = ask(program("read a"), step(0), inputs(5), step(0), program("write 2"), step(0), program("go"), step(0),
                   program("write 2", "write 3"), step(1), program(), step(0))
        self.assertEqual(told[1::2], [
            [0, 0, 0, 1, 0, 1, 0], [0, 5, 0, 1, 0, 1, 0], [0, 2, 0, 0, 0], [0, 2, 0, 0, 0], [1, 3, 0, 0, 0], [-2],
        ])


class NothingChanges(unittest.TestCase):
    START = [program(*EXAMPLE), inputs(3, 4)]
    AFTER = [RUN, SHOW, SIZE, values(3), TRACE, step(8)]

    def test_what_is_told_after_it(self):
        right = ask(*self.START, *self.AFTER)[2:]
        for number in (0, 8, 16):
            self.assertEqual(ask(*self.START, step(number), *self.AFTER)[3:], right)

    def test_a_refusal_leaves_everything(self):
        right = ask(*self.START, *self.AFTER)[2:]
        for number in (-1, 17, FAR, -FAR):
            self.assertEqual(ask(*self.START, step(number), *self.AFTER)[2:], [[-2]] + right)


if __name__ == "__main__":
    unittest.main()
