"""The document's own example, whole."""

import unittest

from tests.asking import (
    EXAMPLE, RUN, SHOW, SIZE, TRACE, ask, info, inputs, only, program, runonly, same, shown, step, texts, values,
)
from valueoriginsdesk.runner import answers


class Example(unittest.TestCase):
    def test_each_answer(self):
        told = ask(
            program(*EXAMPLE), inputs(3), RUN, values(3), values(5), step(8), info(6), only(0, 2, 4),
            runonly(0, 1, 2, 3, 4, 7), same(7, 0, 1, 2, 3, 4, 7), same(7, 0, 1, 7), SIZE, SHOW,
        )
        self.assertEqual(told, [
            [8], [1], [0, 17, 2, 2, 6], [3, 3, 5, 6], [3, 1, 0, 0],
            [3, 5, 8, 2, 4, 5] + texts("s", "a"),
            [3, 0] + texts("a") + [2, 2, 5],
            shown("read a", "while 0 < a:", "  a = a - 1"),
            [0, 13, 1, 6], [1], [0, 0], [8, 2, 1, 17], shown(*EXAMPLE),
        ])

    def test_rows_of_all_lines(self):
        rows = ask(program(*EXAMPLE), inputs(3), *[values(line) for line in range(8)])[2:]
        self.assertEqual(rows, [
            [1, 3], [1, 0], [4, 1, 1, 1, 0], [3, 3, 5, 6], [3, 2, 1, 0], [3, 1, 0, 0], [1, 2], [1, 6],
        ])

    def test_trace(self):
        told = ask(program(*EXAMPLE), inputs(3), TRACE)[-1]
        self.assertEqual(told, [
            17,
            0, 3, 0, 1, 0,
            1, 0, 0, 0,
            2, 1, 0, 1, 1,
            3, 3, 3, 2, 2, 1,
            4, 2, 3, 1, 1,
            5, 1, 3, 1, 4,
            6, 2, 6, 1, 5,
            2, 1, 3, 1, 5,
            3, 5, 8, 2, 4, 5,
            4, 1, 8, 1, 5,
            5, 0, 8, 1, 9,
            2, 1, 8, 1, 10,
            3, 6, 12, 2, 9, 10,
            4, 0, 12, 1, 10,
            5, 0, 12, 1, 13,
            2, 0, 12, 1, 14,
            7, 6, 0, 1, 13,
        ])

    def test_the_list_that_is_given_back(self):
        calls = program(*EXAMPLE) + inputs(3) + RUN + values(3) + values(8)
        self.assertEqual(answers(calls), [1, 8, 1, 1, 5, 0, 17, 2, 2, 6, 4, 3, 3, 5, 6, 1, -3])

    def test_the_list_of_the_other_calls(self):
        calls = program(*EXAMPLE) + inputs(3) + step(8) + info(6) + only(7) + runonly(0, 7) + same(7, 0, 1, 7)
        self.assertEqual(answers(calls), [
            1, 8, 1, 1,
            11, 3, 5, 8, 2, 4, 5, 2, 1, 115, 1, 97,
            8, 3, 0, 1, 1, 97, 2, 2, 5,
            9, 8, 119, 114, 105, 116, 101, 32, 115, 10,
            4, 0, 2, 1, 0,
            2, 0, 0,
        ])


if __name__ == "__main__":
    unittest.main()
