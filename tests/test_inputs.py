"""Promise 3, inputs: which lists are an input, and that a run has it from now on."""

import unittest

from tests.asking import RUN, SHOW, SIZE, ask, ask_last, inputs, program, shown

LARGEST = 10 ** 18
SIX_READS = [row for name in "abcdef" for row in (f"read {name}", f"write {name}")]


class Inputs(unittest.TestCase):
    def assert_refused(self, *numbers):
        with self.subTest(numbers=numbers):
            self.assertEqual(ask(inputs(*numbers)), [[-2]])

    def test_how_many_numbers(self):
        for count in range(7):
            with self.subTest(count=count):
                self.assertEqual(ask(inputs(*range(count)))[0], [count])

    def test_more_than_six(self):
        for count in range(7, 21):
            self.assert_refused(*[1] * count)

    def test_from_0_to_999(self):
        for number in (0, 1, 9, 99, 100, 500, 998, 999):
            with self.subTest(number=number):
                told = ask(inputs(number), program("read a", "write a"), RUN)
                self.assertEqual(told, [[1], [2], [0, 2, 1, number]])

    def test_other_numbers(self):
        for number in (-1, 1000, -2, 1001, 9999, -999, -1000, LARGEST, -LARGEST):
            self.assert_refused(number)

    def test_a_wrong_number_at_each_place(self):
        for place in range(6):
            for number in (-1, 1000):
                numbers = [5] * 6
                numbers[place] = number
                self.assert_refused(*numbers)

    def test_too_many_and_wrong_ones(self):
        self.assert_refused(1, 2, 3, 4, 5, 6, -1)
        self.assert_refused(1000, 2, 3, 4, 5, 6, 7)
        self.assert_refused(*[-LARGEST] * 20)

    def test_their_order(self):
        told = ask_last(program(*SIX_READS), inputs(6, 999, 0, 3, 2, 1), RUN)
        self.assertEqual(told, [0, 12, 6, 6, 999, 0, 3, 2, 1])

    def test_the_last_input_counts(self):
        told = ask(program("read a", "read b", "write a", "write b"), inputs(1, 2), RUN, inputs(3), RUN, inputs(), RUN,
                   inputs(0, 999), RUN)
        self.assertEqual(told, [[4], [2], [0, 4, 2, 1, 2], [1], [0, 4, 2, 3, 0], [0], [0, 4, 2, 0, 0], [2],
                                [0, 4, 2, 0, 999]])

    def test_no_input_at_the_beginning(self):
        self.assertEqual(ask(program("read a", "write a"), RUN, SIZE), [[2], [0, 2, 1, 0], [2, 0, 0, 2]])

    def test_the_program_stays(self):
        self.assertEqual(ask(program("write 3"), inputs(1), SHOW), [[1], [1], shown("write 3")])

    def test_a_refused_input_leaves_everything(self):
        start = [program(*SIX_READS), inputs(7, 8, 9)]
        after = [RUN, SIZE, SHOW]
        right = ask(*start, *after)[2:]
        self.assertEqual(right[:2], [[0, 12, 6, 7, 8, 9, 0, 0, 0], [12, 0, 3, 12]])
        for numbers in ((1000,), (-1,), (1, 2, 3, 4, 5, 6, 7), (1, 2, 3, -1), (1, 2, 3, 4, 5, 1000)):
            with self.subTest(numbers=numbers):
                self.assertEqual(ask(*start, inputs(*numbers), *after)[2:], [[-2]] + right)

    def test_a_refused_input_at_the_beginning(self):
        told = ask(inputs(1000), program("read a", "write a"), RUN, SIZE)
        self.assertEqual(told, [[-2], [2], [0, 2, 1, 0], [2, 0, 0, 2]])


if __name__ == "__main__":
    unittest.main()
