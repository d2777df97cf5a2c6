"""Promise 12, size: lines, how deep blocks stand, numbers of input, steps of the run."""

import unittest

from tests.asking import EXAMPLE, RUN, SIZE, ask, ask_last, inputs, program


class Size(unittest.TestCase):
    def assert_size(self, right, rows, numbers=()):
        with self.subTest(rows=rows, numbers=numbers):
            self.assertEqual(ask_last(program(*rows), inputs(*numbers), SIZE), right)

    def test_at_the_beginning(self):
        self.assertEqual(ask(SIZE), [[0, 0, 0, 0]])

    def test_how_many_lines(self):
        self.assert_size([0, 0, 0, 0], ())
        self.assert_size([1, 0, 0, 1], ("write 1",))
        self.assert_size([14, 0, 0, 14], ("write 1",) * 14)

    def test_lines_of_else_count_as_none(self):
        self.assert_size([4, 1, 0, 3], ("if a < b:", "  write 1", "else:", "  write 2", "write 3"))

    def test_how_deep(self):
        one = ("if a < b:", "  write 1")
        two = ("if a < b:", "  while a < b:", "    write 1")
        three = ("while a < b:", "  if a < b:", "    while a < b:", "      write 1")
        self.assert_size([2, 1, 0, 1], one)
        self.assert_size([3, 2, 0, 1], two)
        self.assert_size([4, 3, 0, 1], three)
        self.assert_size([4, 1, 0, 2], one + one)
        self.assert_size([6, 2, 0, 3], two + one + ("write 2",))
        self.assert_size([6, 2, 0, 3], one + two + ("write 2",))

    def test_how_deep_in_an_else(self):
        rows = ("if a < b:", "  write 1", "else:", "  if a < b:", "    write 2", "  else:", "    if a < b:",
                "      write 3")
        self.assert_size([6, 3, 0, 3], rows)
        self.assert_size([4, 2, 0, 2], rows[:5])

    def test_how_many_numbers(self):
        for count in range(7):
            self.assert_size([1, 0, count, 1], ("read a",), range(count))
            self.assert_size([0, 0, count, 0], (), range(count))

    def test_how_many_steps(self):
        self.assert_size([3, 0, 0, 2], ("write 1", "stop", "write 2"))
        self.assert_size([2, 1, 0, 120], ("while 0 == 0:", "  read a"))
        self.assert_size([3, 1, 0, 120], ("n = 59", "while n != 0:", "  n = n - 1"))
        self.assert_size([3, 1, 0, 118], ("n = 58", "while n != 0:", "  n = n - 1"))
        for number, steps in enumerate((4, 8, 13, 17, 20, 24)):
            self.assert_size([8, 2, 1, steps], EXAMPLE, (number,))

    def test_after_refused_calls(self):
        told = ask(program(*EXAMPLE), inputs(3), program("go"), inputs(1000), inputs(*[1] * 7), [4, 8], SIZE)
        self.assertEqual(told, [[8], [1], [-1], [-2], [-2], [-3], [8, 2, 1, 17]])

    def test_it_changes_nothing(self):
        told = ask(program("read a", "write a"), inputs(4, 5), SIZE, RUN, SIZE)
        self.assertEqual(told[2:], [[2, 0, 2, 2], [0, 2, 1, 4], [2, 0, 2, 2]])


if __name__ == "__main__":
    unittest.main()
