"""Promise 4, run: how a run ends, how many steps it has, and its output."""

import unittest

from tests.asking import RUN, SHOW, SIZE, ask, ask_last, inputs, program


def account(rows, numbers=()):
    """The run's account of these rows on this input."""
    return ask_last(program(*rows), inputs(*numbers), RUN)


def output(*rows, numbers=()):
    """The output of these rows, once it is seen that it stands behind how long it is."""
    told = account(rows, numbers)
    if told[2] != len(told) - 3:
        raise AssertionError(f"no account: {told}")
    return told[3:]


class Values(unittest.TestCase):
    def test_a_program_without_lines(self):
        self.assertEqual(ask(RUN), [[0, 0, 0]])
        self.assertEqual(account((), (1, 2)), [0, 0, 0])

    def test_assignments(self):
        self.assertEqual(output("a = 7", "b = a", "write b", "write a", "write 99"), [7, 7, 99])
        self.assertEqual(output("a = 7", "a = 8", "write a"), [8])
        self.assertEqual(output("a = 7", "a = a", "write a"), [7])

    def test_names_that_were_not_set(self):
        self.assertEqual(output("write a"), [0])
        self.assertEqual(output("b = a", "write b"), [0])
        self.assertEqual(output("b = 5 + a", "write b", "c = a - 1", "write c", "d = 5 * a", "write d"), [5, 999, 0])
        self.assertEqual(output("if a == 0:", "  write 1", "if a == b:", "  write 2"), [1, 2])
        self.assertEqual(output("a = 1", "write aa", "write b"), [0, 0])

    def test_names_that_begin_or_end_alike(self):
        rows = ("abcd = 1", "abce = 2", "abc = 3", "bbcd = 4", "bcd = 5", "write abcd", "write abce", "write abc",
                "write bbcd", "write bcd")
        self.assertEqual(output(*rows), [1, 2, 3, 4, 5])

    def test_plus(self):
        self.assertEqual(output("a = 2 + 3", "write a", "b = a + 99", "write b", "b = b + b", "write b"), [5, 104, 208])

    def test_plus_beyond_999(self):
        rows = ("read a", "read b", "c = a + b", "write c")
        for numbers, right in (((999, 0), 999), ((999, 1), 0), ((999, 999), 998), ((500, 500), 0), ((500, 499), 999)):
            with self.subTest(numbers=numbers):
                self.assertEqual(output(*rows, numbers=numbers), [right])

    def test_minus(self):
        rows = ("read a", "read b", "c = a - b", "write c")
        for numbers, right in (((5, 3), 2), ((3, 3), 0), ((3, 5), 998), ((0, 1), 999), ((0, 999), 1), ((999, 0), 999)):
            with self.subTest(numbers=numbers):
                self.assertEqual(output(*rows, numbers=numbers), [right])

    def test_times(self):
        rows = ("read a", "read b", "c = a * b", "write c")
        for numbers, right in (((6, 7), 42), ((0, 9), 0), ((27, 37), 999), ((40, 25), 0), ((99, 99), 801),
                               ((999, 999), 1), ((123, 45), 535), ((2, 3), 6), ((1, 999), 999)):
            with self.subTest(numbers=numbers):
                self.assertEqual(output(*rows, numbers=numbers), [right])

    def test_beyond_999_in_several_steps(self):
        self.assertEqual(output("a = 99 * 99", "a = a * a", "write a", "a = a + 99", "a = 0 - a", "write a"), [601, 300])

    def test_left_and_right_in_their_order(self):
        self.assertEqual(output("a = 9 - 4", "write a", "b = 4", "c = b - 9", "write c"), [5, 995])

    def test_values_compared_after_they_wrapped(self):
        self.assertEqual(output("a = 0 - 1", "if 99 < a:", "  write a", "b = a + 1", "if b == 0:", "  write b"), [999, 0])


class Reads(unittest.TestCase):
    def test_each_takes_the_first_that_is_left(self):
        self.assertEqual(output("read a", "read b", "read a", "write a", "write b", numbers=(5, 6, 7)), [7, 6])

    def test_behind_the_end_of_the_input(self):
        self.assertEqual(output("a = 9", "read a", "write a"), [0])
        self.assertEqual(output("read a", "write a", "read a", "write a", "read a", "write a", numbers=(4,)), [4, 0, 0])

    def test_more_numbers_than_reads(self):
        self.assertEqual(output("read a", "write a", numbers=(4, 5, 6)), [4])

    def test_in_a_loop(self):
        rows = ("a = 1", "while a != 0:", "  read a", "  s = s + a", "write s")
        self.assertEqual(account(rows, (3, 4, 5)), [0, 15, 1, 12])
        self.assertEqual(account(rows, (3, 0, 5)), [0, 9, 1, 3])

    def test_each_run_begins_with_the_whole_input(self):
        told = ask(program("read a", "write a"), inputs(4, 5), RUN, RUN, SHOW, RUN, SIZE, RUN)
        self.assertEqual([told[2], told[3], told[5], told[7]], [[0, 2, 1, 4]] * 4)

    def test_each_run_begins_with_no_name_set(self):
        self.assertEqual(ask(program("write a", "a = 5"), RUN, RUN), [[2], [0, 2, 1, 0], [0, 2, 1, 0]])


class Tests(unittest.TestCase):
    CASES = (
        ("<", (3, 4), True), ("<", (4, 4), False), ("<", (5, 4), False), ("<", (0, 999), True), ("<", (9, 10), True),
        ("==", (4, 4), True), ("==", (3, 4), False), ("==", (4, 3), False), ("==", (0, 0), True),
        ("!=", (4, 4), False), ("!=", (3, 4), True), ("!=", (4, 3), True), ("!=", (0, 0), False),
    )

    def test_an_if(self):
        for sign, numbers, holds in self.CASES:
            with self.subTest(sign=sign, numbers=numbers):
                rows = ("read a", "read b", f"if a {sign} b:", "  write 1", "write 2")
                self.assertEqual(account(rows, numbers), [0, 5, 2, 1, 2] if holds else [0, 4, 1, 2])

    def test_an_if_with_an_else(self):
        for sign, numbers, holds in self.CASES:
            with self.subTest(sign=sign, numbers=numbers):
                rows = ("read a", "read b", f"if a {sign} b:", "  write 1", "else:", "  write 2", "write 3")
                self.assertEqual(account(rows, numbers), [0, 5, 2, 1 if holds else 2, 3])

    def test_a_while(self):
        for sign, numbers, holds in self.CASES:
            with self.subTest(sign=sign, numbers=numbers):
                rows = ("read a", "read b", f"while a {sign} b:", "  write 1", "  stop", "write 2")
                self.assertEqual(account(rows, numbers), [1, 5, 1, 1] if holds else [0, 4, 1, 2])

    def test_the_test_is_made_once_for_a_block(self):
        rows = ("if a == 0:", "  a = 1", "  write a", "else:", "  write 9", "write a")
        self.assertEqual(account(rows), [0, 4, 2, 1, 1])

    def test_a_while_is_asked_again(self):
        rows = ("a = 3", "while 0 < a:", "  write a", "  a = a - 1", "write 9")
        self.assertEqual(account(rows), [0, 12, 4, 3, 2, 1, 9])

    def test_the_whole_block_is_done_before_it_is_asked_again(self):
        self.assertEqual(account(("while a == 0:", "  a = 1", "  write 5", "  write 6", "write 7")), [0, 6, 3, 5, 6, 7])

    def test_a_while_that_does_not_hold(self):
        self.assertEqual(account(("while a < 0:", "  write 1", "write 2")), [0, 2, 1, 2])

    def test_blocks_within_blocks(self):
        rows = ("while i < 3:", "  j = 0", "  while j < i:", "    j = j + 1", "    if j == 2:", "      write i",
                "    else:", "      write j", "  i = i + 1", "write 99")
        self.assertEqual(account(rows), [0, 26, 4, 1, 1, 2, 99])

    def test_an_else_of_an_inner_and_of_an_outer_if(self):
        inner = ("read a", "read b", "if a == 1:", "  if b == 1:", "    write 1", "  else:", "    write 2", "write 9")
        outer = ("read a", "read b", "if a == 1:", "  if b == 1:", "    write 1", "else:", "  write 2", "write 9")
        for numbers, of_inner, of_outer in (((1, 1), [1, 9], [1, 9]), ((1, 0), [2, 9], [9]), ((0, 1), [9], [2, 9])):
            with self.subTest(numbers=numbers):
                self.assertEqual(output(*inner, numbers=numbers), of_inner)
                self.assertEqual(output(*outer, numbers=numbers), of_outer)

    def test_blocks_in_an_else(self):
        rows = ("read a", "if a == 1:", "  write 1", "else:", "  if a == 2:", "    write 2", "  else:",
                "    while a != 0:", "      write a", "      a = a - 1", "  write 7", "write 8")
        for number, right in ((1, [1, 8]), (2, [2, 7, 8]), (3, [3, 2, 1, 7, 8]), (0, [7, 8])):
            with self.subTest(number=number):
                self.assertEqual(output(*rows, numbers=(number,)), right)

    def test_what_follows_a_block_of_several_that_end(self):
        rows = ("if a == 0:", "  if a == 0:", "    while b < 2:", "      b = b + 1", "  write 1", "write 2")
        self.assertEqual(account(rows), [0, 9, 2, 1, 2])


class Stops(unittest.TestCase):
    def test_a_stop(self):
        self.assertEqual(account(("stop",)), [1, 1, 0])
        self.assertEqual(account(("write 1", "stop", "write 2")), [1, 2, 1, 1])
        self.assertEqual(account(("write 1", "write 2", "stop")), [1, 3, 2, 1, 2])

    def test_only_the_first_one_is_a_step(self):
        self.assertEqual(account(("stop", "stop", "stop")), [1, 1, 0])

    def test_in_blocks(self):
        self.assertEqual(account(("if a == 0:", "  write 1", "  stop", "  write 2", "write 3")), [1, 3, 1, 1])
        self.assertEqual(account(("while a == 0:", "  write 1", "  stop", "  write 2", "write 3")), [1, 3, 1, 1])
        rows = ("while i < 9:", "  i = i + 1", "  while j < 9:", "    if i == 2:", "      stop", "    j = 9",
                "  j = 0", "write i")
        self.assertEqual(account(rows), [1, 12, 0])

    def test_in_an_else(self):
        self.assertEqual(account(("if a != 0:", "  write 1", "else:", "  stop", "write 2")), [1, 2, 0])

    def test_one_that_is_not_reached(self):
        self.assertEqual(account(("if a != 0:", "  stop", "write 2")), [0, 2, 1, 2])
        self.assertEqual(account(("while a != 0:", "  stop")), [0, 1, 0])
        self.assertEqual(account(("if a == 0:", "  write 1", "else:", "  stop")), [0, 2, 1, 1])


def counting_down(number, *behind):
    """Rows of a run that has 2 * number + 2 steps and then those of the rows behind."""
    return (f"n = {number}", "while n != 0:", "  n = n - 1") + behind


class LongRuns(unittest.TestCase):
    def test_a_run_of_just_120_steps(self):
        self.assertEqual(account(counting_down(59)), [0, 120, 0])
        self.assertEqual(account(counting_down(58, "write 1", "write 2")), [0, 120, 2, 1, 2])
        self.assertEqual(account(counting_down(58, "write 1", "read a")), [0, 120, 1, 1])
        self.assertEqual(account(counting_down(58, "write 1", "if a != a:", "  write 2")), [0, 120, 1, 1])

    def test_a_run_of_119_steps(self):
        self.assertEqual(account(counting_down(58, "write 1")), [0, 119, 1, 1])

    def test_one_that_would_have_121(self):
        self.assertEqual(account(counting_down(59, "write 1")), [2, 120, 0])
        self.assertEqual(account(counting_down(58, "write 1", "write 2", "write 3")), [2, 120, 2, 1, 2])
        self.assertEqual(account(counting_down(58, "write 1", "write 2", "a = 3")), [2, 120, 2, 1, 2])
        self.assertEqual(account(counting_down(58, "write 1", "write 2", "read a"), (1,)), [2, 120, 2, 1, 2])
        self.assertEqual(account(counting_down(58, "write 1", "if a == a:", "  write 2")), [2, 120, 1, 1])
        self.assertEqual(account(counting_down(59, "if a == a:", "  write 2", "else:", "  write 3")), [2, 120, 0])
        self.assertEqual(account(counting_down(59, "while a == a:", "  write 2")), [2, 120, 0])

    def test_one_that_would_have_122(self):
        self.assertEqual(account(counting_down(60)), [2, 120, 0])
        self.assertEqual(account(counting_down(59, "write 1", "write 2")), [2, 120, 0])

    def test_a_while_asked_again_as_the_121st(self):
        self.assertEqual(account(("a = 0", "b = 0") + counting_down(58)), [0, 120, 0])
        self.assertEqual(account(("a = 0",) + counting_down(59)), [2, 120, 0])

    def test_a_stop_as_the_120th_and_as_the_121st(self):
        self.assertEqual(account(counting_down(58, "write 1", "stop")), [1, 120, 1, 1])
        self.assertEqual(account(counting_down(59, "stop")), [2, 120, 0])
        self.assertEqual(account(counting_down(58, "write 1", "stop", "write 2")), [1, 120, 1, 1])

    def test_one_that_never_ends(self):
        self.assertEqual(account(("while 0 == 0:", "  a = a + 1")), [2, 120, 0])
        self.assertEqual(account(("while 0 == 0:", "  write a", "  a = a + 1")), [2, 120, 40] + list(range(40)))
        self.assertEqual(account(("while 0 == 0:", "  write 7")), [2, 120, 60] + [7] * 60)

    def test_nothing_is_done_behind_it(self):
        rows = ("while 0 == 0:", "  while 0 == 0:", "    while 0 == 0:", "      write 7", "    write 8", "  write 9",
                "write 1", "stop")
        self.assertEqual(account(rows), [2, 120, 59] + [7] * 59)

    def test_in_an_if_and_in_an_else(self):
        self.assertEqual(account(("if 0 == 0:", "  while 0 == 0:", "    a = 1", "else:", "  write 1", "write 2")),
                         [2, 120, 0])
        self.assertEqual(account(("if 0 != 0:", "  write 1", "else:", "  while 0 == 0:", "    a = 1", "write 2")),
                         [2, 120, 0])


class OneAfterTheOther(unittest.TestCase):
    def test_an_outcome_does_not_stay(self):
        told = ask(program("stop"), RUN, program("write 1"), RUN, program("while 0 == 0:", "  read a"), RUN,
                   program("write 2"), RUN)
        self.assertEqual(told[1::2], [[1, 1, 0], [0, 1, 1, 1], [2, 120, 0], [0, 1, 1, 2]])

    def test_run_changes_nothing(self):
        start = [program("read a", "write a"), inputs(8)]
        self.assertEqual(ask(*start, SHOW, SIZE)[2:], ask(*start, RUN, SHOW, SIZE)[3:])


if __name__ == "__main__":
    unittest.main()
