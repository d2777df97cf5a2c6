"""Promise 6, trace: of each step its line, its value, the test that let it, and where from."""

import unittest

from tests.asking import RUN, SHOW, TRACE, ask, ask_last, inputs, program, trace_of


class WhereFrom(unittest.TestCase):
    def test_no_steps(self):
        self.assertEqual(ask(TRACE), [[0]])
        self.assertEqual(trace_of(()), [])

    def test_nothing_used(self):
        rows = ("a = 1", "b = 2 + 3", "write 4", "if 5 < 6:", "  a = 7", "stop")
        self.assertEqual(trace_of(rows), [
            (0, 1, 0, []), (1, 5, 0, []), (2, 4, 0, []), (3, 1, 0, []), (4, 7, 4, []), (5, 0, 0, []),
        ])

    def test_names_that_were_not_set(self):
        rows = ("a = b", "a = c + d", "write e", "if f < g:", "  stop", "while h != i:", "  stop")
        self.assertEqual(trace_of(rows), [
            (0, 0, 0, [0]), (1, 0, 0, [0, 0]), (2, 0, 0, [0]), (3, 0, 0, [0, 0]), (5, 0, 0, [0, 0]),
        ])

    def test_the_order_in_which_names_stand(self):
        rows = ("a = 1", "b = 2", "c = a - b", "c = b - a", "if a < b:", "  write 1", "if b < a:", "  write 2",
                "d = z + a", "d = a + z")
        self.assertEqual([step[3] for step in trace_of(rows)],
                         [[], [], [1, 2], [2, 1], [1, 2], [], [2, 1], [0, 1], [1, 0]])

    def test_each_name_once(self):
        rows = ("a = 1", "b = a + a", "if a == a:", "  b = b * b", "while b != b:", "  stop", "c = z - z")
        self.assertEqual(trace_of(rows), [
            (0, 1, 0, []), (1, 2, 0, [1]), (2, 1, 0, [1]), (3, 4, 3, [2]), (4, 0, 0, [4]), (6, 0, 0, [0]),
        ])

    def test_names_beside_numbers(self):
        rows = ("a = 1", "b = 2 + a", "b = a + 2", "if 0 < b:", "  write b", "if b < 0:", "  stop")
        self.assertEqual([step[3] for step in trace_of(rows)], [[], [1], [1], [3], [3], [3]])

    def test_the_last_step_that_set_it(self):
        rows = ("a = 1", "write a", "a = 2", "write a", "a = a + 1", "write a", "a = 1", "write a")
        self.assertEqual([step[3] for step in trace_of(rows)], [[], [1], [], [3], [3], [5], [], [7]])

    def test_a_step_does_not_come_from_itself(self):
        self.assertEqual(trace_of(("a = a + 1", "a = a + 1")), [(0, 1, 0, [0]), (1, 2, 0, [1])])

    def test_a_write_and_a_test_set_nothing(self):
        rows = ("a = 1", "write a", "if a == 1:", "  write a", "write a")
        self.assertEqual([step[3] for step in trace_of(rows)], [[], [1], [1], [1], [1]])

    def test_set_on_one_of_several_ways(self):
        rows = ("read a", "b = 1", "if a == 1:", "  b = 2", "else:", "  c = 3", "write b", "write c")
        self.assertEqual([step[3] for step in trace_of(rows, (1,))], [[0], [], [1], [], [4], [0]])
        self.assertEqual([step[3] for step in trace_of(rows, (2,))], [[0], [], [1], [], [2], [4]])

    def test_round_after_round(self):
        rows = ("while a < 3:", "  b = a", "  a = a + 1", "write b")
        self.assertEqual(trace_of(rows), [
            (0, 1, 0, [0]), (1, 0, 1, [0]), (2, 1, 1, [0]),
            (0, 1, 1, [3]), (1, 1, 4, [3]), (2, 2, 4, [3]),
            (0, 1, 4, [6]), (1, 2, 7, [6]), (2, 3, 7, [6]),
            (0, 0, 7, [9]), (3, 2, 0, [8]),
        ])


class Reads(unittest.TestCase):
    def test_the_last_read_before(self):
        rows = ("read a", "read b", "c = 1", "read a", "write a", "write b")
        self.assertEqual(trace_of(rows, (7, 8)), [
            (0, 7, 0, [0]), (1, 8, 0, [1]), (2, 1, 0, []), (3, 0, 0, [2]), (4, 0, 0, [4]), (5, 8, 0, [2]),
        ])

    def test_behind_the_end_of_the_input(self):
        self.assertEqual(trace_of(("read a", "read a", "read a"), ()),
                         [(0, 0, 0, [0]), (1, 0, 0, [1]), (2, 0, 0, [2])])

    def test_it_does_not_use_the_name_that_it_sets(self):
        rows = ("a = 5", "read a", "a = 6", "read a", "write a")
        self.assertEqual([step[3] for step in trace_of(rows, (1, 2))], [[], [0], [], [2], [4]])

    def test_in_a_loop(self):
        rows = ("while 0 == 0:", "  read a", "  if a == 0:", "    stop")
        self.assertEqual(trace_of(rows, (5,)), [
            (0, 1, 0, []), (1, 5, 1, [0]), (2, 0, 1, [2]), (0, 1, 1, []), (1, 0, 4, [2]), (2, 1, 4, [5]), (3, 0, 6, []),
        ])


class LetBy(unittest.TestCase):
    def lets(self, rows, numbers=()):
        """The line of each step, and what let it."""
        return [(step[0], step[2]) for step in trace_of(rows, numbers)]

    def test_no_header_around(self):
        rows = ("if 0 == 0:", "  a = 1", "b = 2", "while 0 != 0:", "  stop", "if 0 != 0:", "  stop", "stop")
        self.assertEqual(self.lets(rows), [(0, 0), (1, 1), (2, 0), (3, 0), (5, 0), (7, 0)])

    def test_an_if_and_its_else(self):
        rows = ("a = 1", "if a == 1:", "  b = 1", "  b = 2", "else:", "  b = 3", "if a == 2:", "  b = 4", "else:",
                "  b = 5", "  b = 6")
        self.assertEqual(self.lets(rows), [(0, 0), (1, 0), (2, 2), (3, 2), (5, 0), (7, 5), (8, 5)])

    def test_a_while_asked_again_is_let_by_its_own_last_test(self):
        rows = ("while a < 3:", "  a = a + 1")
        self.assertEqual(self.lets(rows), [(0, 0), (1, 1), (0, 1), (1, 3), (0, 3), (1, 5), (0, 5)])

    def test_behind_a_while_it_lets_nothing(self):
        rows = ("while a < 1:", "  a = 1", "write a")
        self.assertEqual(self.lets(rows), [(0, 0), (1, 1), (0, 1), (2, 0)])

    def test_the_innermost_header(self):
        rows = ("if 0 == 0:", "  if 0 == 0:", "    while a < 1:", "      a = a + 1", "    write 2", "  write 3",
                "write 4")
        self.assertEqual(self.lets(rows), [(0, 0), (1, 1), (2, 2), (3, 3), (2, 3), (4, 2), (5, 1), (6, 0)])

    def test_a_while_come_to_anew_is_let_by_the_header_around_it(self):
        rows = ("while i < 2:", "  j = 0", "  while j < 1:", "    j = j + 1", "  i = i + 1")
        self.assertEqual(self.lets(rows), [
            (0, 0), (1, 1), (2, 1), (3, 3), (2, 3), (4, 1),
            (0, 1), (1, 7), (2, 7), (3, 9), (2, 9), (4, 7),
            (0, 7),
        ])

    def test_an_inner_while_whose_test_did_not_hold(self):
        rows = ("while i < 2:", "  while i < 0:", "    stop", "  i = i + 1", "write i")
        self.assertEqual(self.lets(rows), [(0, 0), (1, 1), (3, 1), (0, 1), (1, 4), (3, 4), (0, 4), (4, 0)])

    def test_the_last_test_of_an_if_in_a_loop(self):
        rows = ("while i < 2:", "  if i == 0:", "    a = 1", "  else:", "    a = 2", "  i = i + 1")
        self.assertEqual(self.lets(rows), [
            (0, 0), (1, 1), (2, 2), (4, 1), (0, 1), (1, 5), (3, 6), (4, 5), (0, 5),
        ])

    def test_headers_in_an_else(self):
        rows = ("if 0 != 0:", "  stop", "else:", "  if 0 != 0:", "    stop", "  else:", "    while a < 1:",
                "      a = 1", "    write 1", "  write 2", "write 3")
        self.assertEqual(self.lets(rows), [(0, 0), (2, 1), (4, 2), (5, 3), (4, 3), (6, 2), (7, 1), (8, 0)])

    def test_three_whiles_in_one_another(self):
        rows = ("while a < 1:", "  while b < 1:", "    while c < 1:", "      c = 1", "    b = 1", "  a = 1")
        self.assertEqual(self.lets(rows), [
            (0, 0), (1, 1), (2, 2), (3, 3), (2, 3), (4, 2), (1, 2), (5, 1), (0, 1),
        ])

    def test_reads_writes_and_stops(self):
        rows = ("if 0 == 0:", "  read a", "  write a", "  stop")
        self.assertEqual(self.lets(rows, (4,)), [(0, 0), (1, 1), (2, 1), (3, 1)])


class Whole(unittest.TestCase):
    def test_the_numbers_of_lines_beside_lines_of_else(self):
        rows = ("if a == 1:", "  write 1", "else:", "  write 2", "if a == 1:", "  write 3", "else:", "  write 4",
                "write a")
        self.assertEqual(trace_of(rows), [
            (0, 0, 0, [0]), (2, 2, 1, []), (3, 0, 0, [0]), (5, 4, 3, []), (6, 0, 0, [0]),
        ])

    def test_how_it_is_told(self):
        told = ask_last(program("read a", "b = a + c", "stop"), inputs(6), TRACE)
        self.assertEqual(told, [3, 0, 6, 0, 1, 0, 1, 6, 0, 2, 1, 0, 2, 0, 0, 0])

    def test_a_stopped_run(self):
        self.assertEqual(trace_of(("if a == 0:", "  stop", "write 1")), [(0, 1, 0, [0]), (1, 0, 1, [])])

    def test_a_long_run(self):
        steps = trace_of(("while 0 == 0:", "  a = a + 1"))
        self.assertEqual(len(steps), 120)
        self.assertEqual(steps[:4], [(0, 1, 0, []), (1, 1, 1, [0]), (0, 1, 1, []), (1, 2, 3, [2])])
        self.assertEqual(steps[-2:], [(0, 1, 117, []), (1, 60, 119, [118])])

    def test_a_run_of_just_120_steps(self):
        steps = trace_of(("n = 59", "while n != 0:", "  n = n - 1"))
        self.assertEqual(len(steps), 120)
        self.assertEqual(steps[-1], (1, 0, 118, [119]))

    def test_it_changes_nothing(self):
        start = [program("read a", "write a", "read b"), inputs(8, 9)]
        once = ask(*start, TRACE)[-1]
        told = ask(*start, TRACE, RUN, TRACE, SHOW, TRACE)
        self.assertEqual([told[2], told[4], told[6]], [once] * 3)
        self.assertEqual(told[3], [0, 3, 1, 8])

    def test_the_program_and_the_input_of_now(self):
        told = ask(program("read a"), TRACE, inputs(5), TRACE, program("write 2"), TRACE, program("go"), TRACE)
        self.assertEqual(told[1::2], [[1, 0, 0, 0, 1, 0], [1, 0, 5, 0, 1, 0], [1, 0, 2, 0, 0], [1, 0, 2, 0, 0]])


if __name__ == "__main__":
    unittest.main()
