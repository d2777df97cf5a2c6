"""The interface: calls told in one list of whole numbers, and answers given back in another."""

import inspect
import unittest

from tests.asking import (
    EXAMPLE, RUN, SHOW, SIZE, TRACE, ask, inputs, program, program_of, shown, values,
)
from valueoriginsdesk.runner import answers


class Answers(unittest.TestCase):
    def test_its_one_argument(self):
        self.assertEqual(list(inspect.signature(answers).parameters), ["calls"])
        self.assertEqual(answers(calls=[3]), [3, 0, 0, 0])

    def test_each_call_alone(self):
        self.assertEqual(answers([0, 0]), [1, 0])
        self.assertEqual(answers([0, 5, 115, 116, 111, 112, 10]), [1, 1])
        self.assertEqual(answers([0, 1, 10]), [1, -1])
        self.assertEqual(answers([1]), [1, 0])
        self.assertEqual(answers([2, 0]), [1, 0])
        self.assertEqual(answers([2, 2, 999, 0]), [1, 2])
        self.assertEqual(answers([2, 1, 1000]), [1, -2])
        self.assertEqual(answers([3]), [3, 0, 0, 0])
        self.assertEqual(answers([4, 0]), [1, -3])
        self.assertEqual(answers([5]), [1, 0])
        self.assertEqual(answers([11]), [4, 0, 0, 0, 0])

    def test_how_many_numbers_stand_before_each_answer(self):
        calls = [0, 6] + [ord(sign) for sign in "a = 3\n"] + [3, 1, 4, 0, 4, 1, 5, 11]
        self.assertEqual(answers(calls), [
            1, 1,
            3, 0, 1, 0,
            7, 6, 97, 32, 61, 32, 51, 10,
            2, 1, 3,
            1, -3,
            5, 1, 0, 3, 0, 0,
            4, 1, 0, 0, 1,
        ])

    def test_rows_that_look_like_calls(self):
        self.assertEqual(answers([2, 3, 3, 1, 11, 2, 2, 11, 5, 11]), [1, 3, 1, 2, 4, 0, 0, 2, 0])
        self.assertEqual(answers([0, 3, 1, 2, 3, 4, 11, 2, 7, 3, 3, 3, 3, 3, 3, 3, 1]), [1, -1, 1, -3, 1, -2, 1, 0])

    def test_a_refused_call_is_passed_over_whole(self):
        calls = program_of([3] * 50) + inputs(*[11] * 20) + values(1000) + inputs(-1, 3, 3) + SIZE
        self.assertEqual(answers(calls), [1, -1, 1, -2, 1, -3, 1, -2, 4, 0, 0, 0, 0])

    def test_whole_numbers_in_a_list(self):
        calls = program(*EXAMPLE) + inputs(3) + SHOW + RUN + values(5) + TRACE + SIZE + values(9) + inputs(1000)
        told = answers(calls)
        self.assertIs(type(told), list)
        self.assertEqual({type(number) for number in told}, {int})

    def test_what_was_handed_in_is_unchanged(self):
        calls = program(*EXAMPLE) + inputs(3, 4) + RUN + TRACE + SHOW + values(3) + SIZE + inputs(1000) + program("go")
        before = list(calls)
        answers(calls)
        self.assertEqual(calls, before)
        self.assertEqual({type(number) for number in calls}, {int})

    def test_40_calls(self):
        calls = [program(*EXAMPLE), inputs(3)] + [TRACE] * 38
        told = ask(*calls)
        self.assertEqual(told[:2], [[8], [1]])
        self.assertEqual(told[2:], [told[2]] * 38)
        self.assertEqual(len(told[2]), 88)

    def test_40_programs_of_a_thousand_bytes(self):
        self.assertEqual(ask(*[program_of("a" * 1000)] * 16), [[-1]] * 16)
        self.assertEqual(ask(*[program("stop")] * 40), [[1]] * 40)

    def test_calls_in_any_order(self):
        told = ask(RUN, inputs(3), TRACE, SHOW, program(*EXAMPLE), values(7), inputs(), SIZE, SHOW, values(7))
        self.assertEqual(told, [
            [0, 0, 0], [1], [0], [0], [8], [1, 6], [0], [8, 2, 0, 4], shown(*EXAMPLE), [1, 0],
        ])


class NothingIsKept(unittest.TestCase):
    def test_a_new_object_for_each_list(self):
        answers(program(*EXAMPLE) + inputs(3) + RUN)
        self.assertEqual(answers(SHOW + SIZE + RUN + TRACE), [1, 0, 4, 0, 0, 0, 0, 3, 0, 0, 0, 1, 0])
        self.assertEqual(answers(program("read a", "write a") + RUN), [1, 2, 4, 0, 2, 1, 0])

    def test_the_same_list_again(self):
        calls = program(*EXAMPLE) + inputs(3) + RUN + TRACE + SHOW + values(3) + SIZE
        once = answers(calls)
        self.assertEqual(answers(calls), once)
        answers(program("write 1") + inputs(1000) + program("stop stop") + RUN)
        self.assertEqual(answers(calls), once)

    def test_what_was_given_back_may_be_changed(self):
        for calls in ([11], [1], program("a = 1") + SHOW + TRACE):
            once = answers(calls)
            kept = list(once)
            once.append(5)
            once[0] = 77
            self.assertEqual(answers(calls), kept)


if __name__ == "__main__":
    unittest.main()
