"""Promise 11, same: whether a line's row of values is the same in the run of some lines alone."""

import unittest

from tests.asking import (
    ELSES, EXAMPLE, FAR, NO_LISTS, RUN, SHOW, SIZE, TRACE, ask, ask_last, info, inputs, lists_of_lines, only, program,
    program_of, runonly, same, values,
)

# The example's headers around each of its lines.
AROUND = ((), (), (), (2,), (2,), (2,), (2, 5), ())


class SameCase(unittest.TestCase):
    def assert_same(self, rows, line, lines, numbers=()):
        """The row at the line is the same with these lines alone."""
        self.assert_told([1], rows, line, lines, numbers)

    def assert_differs(self, place, rows, line, lines, numbers=()):
        """The row at the line differs with these lines alone, from this place on."""
        self.assert_told([0, place], rows, line, lines, numbers)

    def assert_told(self, right, rows, line, lines, numbers):
        with self.subTest(rows=rows, line=line, lines=lines, numbers=numbers):
            self.assertEqual(ask_last(program(*rows), inputs(*numbers), same(line, *lines)), right)


class Rows(SameCase):
    def test_all_lines(self):
        for rows, count in ((EXAMPLE, 8), (ELSES, 11), (("while 0 == 0:", "  a = a + 1"), 2)):
            for line in range(count):
                for numbers in ((), (1,), (2,), (3,), (100,)):
                    self.assert_same(rows, line, range(count), numbers)

    def test_the_example(self):
        self.assert_same(EXAMPLE, 7, (0, 1, 2, 3, 4, 7), (3,))
        self.assert_differs(0, EXAMPLE, 7, (0, 1, 7), (3,))

    def test_lines_that_are_nothing_to_it(self):
        rows = ("a = 1", "b = 2", "c = a + 3", "write b", "write c")
        self.assert_same(rows, 4, (0, 2, 4))
        self.assert_same(rows, 3, (1, 3))
        self.assert_same(rows, 0, (0,))
        self.assert_same(rows, 2, (0, 2, 3))

    def test_another_value(self):
        rows = ("a = 1", "b = 2", "c = a + 3", "write b", "write c")
        self.assert_differs(0, rows, 4, (0, 4))
        self.assert_differs(0, rows, 4, (2, 4))
        self.assert_differs(0, rows, 3, (0, 2, 3, 4))

    def test_a_name_that_is_0_anyhow(self):
        self.assert_same(("a = 0", "write a"), 1, (1,))
        self.assert_same(("a = 5 - 5", "write a"), 1, (1,))

    def test_values_that_differ_later(self):
        rows = ("while i < 4:", "  write s", "  if i == 2:", "    s = 9", "  i = i + 1")
        self.assert_differs(3, rows, 1, (0, 1, 2, 4))
        self.assert_differs(3, rows, 1, (0, 1, 4))
        self.assert_same(rows, 0, (0, 1, 4))
        self.assert_same(rows, 4, (0, 4))
        self.assert_same(rows, 2, (0, 2, 4))

    def test_values_that_differ_at_one_place_in_the_middle(self):
        rows = ("while i < 4:", "  s = 0", "  if i == 1:", "    s = 9", "  write s", "  i = i + 1")
        self.assert_differs(1, rows, 4, (0, 1, 2, 4, 5))
        self.assert_differs(2, rows, 4, (0, 2, 3, 4, 5))

    def test_a_row_that_is_shorter_or_longer_alone(self):
        block = ("while i < n:", "  write 1", "  i = i + 1")
        shorter = ("n = 2",) + block + ("  if i == 1:", "    n = 3")
        longer = ("n = 3",) + block + ("  if i == 2:", "    n = 2")
        for rows in (shorter, longer):
            for line in (1, 2, 3):
                self.assert_differs(2, rows, line, (0, 1, 2, 3))
            self.assert_same(rows, 0, (0, 1, 2, 3))

    def test_a_row_that_one_run_does_not_have(self):
        rows = ("a = 1", "if a == 1:", "  write 1", "else:", "  write 2")
        self.assert_differs(0, rows, 2, (1, 2, 3))
        self.assert_differs(0, rows, 3, (1, 2, 3))
        self.assert_same(rows, 2, (0, 1, 2))
        self.assert_same(rows, 3, (0, 1, 3))

    def test_reads_that_take_other_numbers(self):
        rows = ("read a", "read a", "write a")
        self.assert_differs(0, rows, 1, (1, 2), (4, 5))
        self.assert_differs(0, rows, 2, (0, 2), (4, 5))
        self.assert_same(rows, 1, (1, 2), (4, 4))
        self.assert_same(rows, 1, (1, 2), (0, 0))
        self.assert_same(rows, 1, (1, 2))


class LinesThatAreNotAmongThem(SameCase):
    def test_the_line_itself(self):
        self.assert_differs(0, EXAMPLE, 7, (0, 1, 2, 3, 4, 5, 6), (3,))
        self.assert_differs(0, EXAMPLE, 0, (1, 2, 3, 4, 5, 6, 7), (3,))
        self.assert_differs(0, EXAMPLE, 3, (0, 1, 2, 4, 5, 6, 7), (3,))

    def test_the_line_itself_where_it_was_not_reached(self):
        for lines in ((), (0,), (2,), range(8), (0, 1, 2, 3, 4, 7)):
            self.assert_same(EXAMPLE, 6, lines, (0,))
            self.assert_same(EXAMPLE, 3, lines, (0,))
        self.assert_same(("stop", "write 1"), 1, (0,))
        self.assert_same(("stop", "write 1"), 1, ())
        self.assert_differs(0, ("stop", "write 1"), 1, (1,))

    def test_a_header_around_the_line(self):
        self.assert_differs(0, EXAMPLE, 6, (0, 1, 2, 3, 4, 6, 7), (3,))
        self.assert_differs(0, EXAMPLE, 3, (0, 1, 3, 4, 5, 6, 7), (3,))
        self.assert_same(EXAMPLE, 6, (0, 1, 2, 3, 4, 6, 7), (0,))
        self.assert_same(EXAMPLE, 3, (3,), (0,))

    def test_no_lines(self):
        for line in range(8):
            self.assert_differs(0, EXAMPLE, line, (), (3,))
        self.assert_same(EXAMPLE, 6, (), (1,))


class StoppedAndLong(SameCase):
    def test_the_run_stopped(self):
        rows = ("while i < 5:", "  write i", "  if i == 2:", "    stop", "  i = i + 1")
        self.assert_differs(3, rows, 1, (0, 1, 2, 4))
        self.assert_differs(3, rows, 0, (0, 1, 4))
        self.assert_differs(2, rows, 4, (0, 4))
        self.assert_differs(0, rows, 3, (0, 1, 2, 4))
        self.assert_same(rows, 3, (0, 2, 3, 4))

    def test_the_run_of_the_lines_alone_stopped(self):
        rows = ("a = 1", "while i < 3:", "  i = i + 1", "  if a == 0:", "    stop", "  write 7")
        self.assert_differs(1, rows, 1, (1, 2, 3, 4, 5))
        self.assert_differs(1, rows, 2, (1, 2, 3, 4, 5))
        self.assert_differs(0, rows, 5, (1, 2, 3, 4, 5))
        self.assert_differs(0, rows, 4, (1, 2, 3, 4, 5))

    def test_both_stopped(self):
        rows = ("write 1", "a = 2", "stop", "write a")
        self.assert_same(rows, 2, (0, 2))
        self.assert_same(rows, 0, (0, 2))
        self.assert_same(rows, 3, (0, 2, 3))
        self.assert_differs(0, rows, 1, (0, 2))

    def test_the_run_of_the_lines_alone_long(self):
        rows = ("write 5", "while i < 3:", "  i = i + 1", "write i")
        self.assert_differs(3, rows, 1, (0, 1, 3))
        self.assert_same(rows, 0, (0, 1))
        self.assert_differs(0, rows, 3, (0, 1, 3))
        self.assert_differs(0, rows, 2, (0, 1, 3))

    def test_the_run_long(self):
        rows = ("while 0 == 0:", "  a = a + 1", "  if a == 9:", "    stop", "  if a == 3:", "    a = 0")
        self.assert_differs(3, rows, 1, (0, 1, 2, 3))
        self.assert_differs(0, rows, 3, (0, 1, 2, 3))
        self.assert_differs(9, rows, 0, (0, 1, 2, 3))

    def test_both_long(self):
        rows = ("while 0 == 0:", "  a = a + 1", "  b = 1")
        self.assert_differs(40, rows, 0, (0, 1))
        self.assert_differs(40, rows, 1, (0, 1))
        self.assert_differs(40, rows, 0, (0, 2))
        self.assert_differs(40, rows, 0, (0,))
        self.assert_differs(40, rows, 2, (0, 2))
        self.assert_same(("while 0 == 0:", "  a = 1", "  while 0 == 0:", "    b = b + 1"), 1, (0, 1, 2))
        self.assert_same(("while 0 == 0:", "  a = 1", "b = 2"), 0, (0, 1))
        self.assert_same(("while 0 == 0:", "  a = 1", "b = 2"), 2, (0, 1))


class EveryList(unittest.TestCase):
    def rows_alone(self, lines, numbers):
        """The row at each line of the example in the run of these lines alone; None if their text is no program's."""
        left = ask_last(program(*EXAMPLE), only(*lines))
        kept = [line for line in lines if all(header in lines for header in AROUND[line])]
        start = [program_of(left[1:]), inputs(*numbers)]
        told = ask(*start, *[values(place) for place in range(len(kept))])
        if told[0] == [-1]:
            return None
        self.assertEqual(told[0], [len(kept)])
        rows = [[] for _ in EXAMPLE]
        for place, line in enumerate(kept):
            rows[line] = told[2 + place][1:]
        return rows

    def place_of_the_difference(self, row, alone):
        place = 0
        while row[place:place + 1] == alone[place:place + 1]:
            place += 1
        return place

    def test_each_line_against_the_program_that_only_tells(self):
        self.assertEqual([tuple(ask_last(program(*EXAMPLE), info(line))[-len(AROUND[line]):]) if AROUND[line] else ()
                          for line in range(8)], list(AROUND))
        for numbers in ((3,), (0, 7), (1, 2)):
            start = [program(*EXAMPLE), inputs(*numbers)]
            whole = [row[1:] for row in ask(*start, *[values(line) for line in range(8)])[2:]]
            seen = set()
            for lines in lists_of_lines(8):
                alone = self.rows_alone(lines, numbers)
                if alone is None:
                    continue
                told = ask(*start, *[same(line, *lines) for line in range(8)])[2:]
                for line in range(8):
                    right = [1]
                    if whole[line] != alone[line]:
                        right = [0, self.place_of_the_difference(whole[line], alone[line])]
                    self.assertEqual(told[line], right, (line, lines, numbers))
                    seen.add(tuple(right))
            self.assertLessEqual({(1,), (0, 0)}, seen)


class Refusals(unittest.TestCase):
    START = [program(*EXAMPLE), inputs(3)]
    AFTER = [RUN, SHOW, SIZE, values(7), TRACE, only(0, 2, 4), runonly(0, 1, 7), same(7, 0, 1, 7)]

    def test_a_line_that_there_is_not(self):
        for line in (-1, -2, -8, -FAR, 8, 9, 14, FAR):
            for lines in ((), (0,), (0, 1, 7), range(8)):
                with self.subTest(line=line, lines=lines):
                    self.assertEqual(ask_last(*self.START, same(line, *lines)), [-3])

    def test_what_is_no_list_of_lines(self):
        for lines in NO_LISTS:
            for line in (0, 7):
                with self.subTest(line=line, lines=lines):
                    self.assertEqual(ask_last(*self.START, same(line, *lines)), [-4])

    def test_both_are_refused_for_the_line(self):
        for lines in NO_LISTS:
            for line in (-1, 8, FAR, -FAR):
                with self.subTest(line=line, lines=lines):
                    self.assertEqual(ask_last(*self.START, same(line, *lines)), [-3])

    def test_a_program_without_lines(self):
        self.assertEqual(ask(same(0), same(-1), same(0, 0), same(1, 0), same(FAR, FAR)), [[-3]] * 5)

    def test_the_first_and_the_last_line(self):
        for count in (1, 2, 14):
            rows = ["write 1"] * count
            told = ask(program(*rows), same(-1, 0), same(0, 0), same(count - 1, count - 1), same(count, 0),
                       same(0, count), same(0, count - 1, count))
            self.assertEqual(told, [[count], [-3], [1], [1], [-3], [-4], [-4]])

    def test_lines_of_else_count_as_none(self):
        rows = ("if a == 0:", "  write 1", "else:", "  write 2")
        self.assertEqual(ask(program(*rows), same(2, 0, 2), same(3, 0, 2), same(2, 0, 3)), [[3], [1], [-3], [-4]])

    def test_it_changes_nothing_refused_or_not(self):
        right = ask(*self.START, *self.AFTER)[2:]
        for call, answer in ((same(7), [0, 0]), (same(7, 0, 1, 2, 3, 4, 7), [1]), (same(8, 0), [-3]),
                             (same(7, 8), [-4]), (same(7, 1, 0), [-4]), (same(-1, 8), [-3])):
            self.assertEqual(ask(*self.START, call, *self.AFTER)[2:], [answer] + right)

    def test_the_program_and_the_input_of_now(self):
        told = ask(program("read a", "write a"), same(1, 1), inputs(5), same(1, 1), inputs(0), same(1, 1),
                   program("write 2"), same(1, 0), same(0, 0), program("go"), same(0))
        self.assertEqual(told, [[2], [1], [1], [0, 0], [1], [1], [1], [-3], [1], [-1], [0, 0]])


if __name__ == "__main__":
    unittest.main()
