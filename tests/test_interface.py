"""The interface: calls told in one list of whole numbers, and answers given back in another."""

import inspect
import unittest

from tests.asking import (
    ELSES, EXAMPLE, FAR, RUN, SHOW, SIZE, TRACE, ask, info, inputs, only, program, program_of, runonly, same, shown,
    step, texts, values,
)
from valueoriginsdesk.runner import answers

# Each of the twelve calls, with its answer where they are made in this order on one new object.
ALL_TWELVE = (
    (program(*EXAMPLE), [8]),
    (SHOW, shown(*EXAMPLE)),
    (inputs(3), [1]),
    (RUN, [0, 17, 2, 2, 6]),
    (values(3), [3, 3, 5, 6]),
    (TRACE, None),
    (step(8), [3, 5, 8, 2, 4, 5] + texts("s", "a")),
    (info(6), [3, 0] + texts("a") + [2, 2, 5]),
    (only(0, 2, 4), shown("read a", "while 0 < a:", "  a = a - 1")),
    (runonly(0, 1, 2, 3, 4, 7), [0, 13, 1, 6]),
    (same(7, 0, 1, 7), [0, 0]),
    (SIZE, [8, 2, 1, 17]),
)
REFUSED = (
    (program("go"), [-1]), (inputs(1000), [-2]), (values(8), [-3]), (step(17), [-2]), (step(-1), [-2]),
    (info(-1), [-3]), (only(0, 8), [-4]), (runonly(1, 0), [-4]), (same(8, 8), [-3]), (same(7, 8), [-4]),
)


class Answers(unittest.TestCase):
    def test_its_one_argument(self):
        self.assertEqual(list(inspect.signature(answers).parameters), ["calls"])
        self.assertEqual(answers(calls=[3]), [3, 0, 0, 0])

    def test_each_call_alone(self):
        self.assertEqual(answers([0, 0]), [1, 0])
        self.assertEqual(answers([0, 5, 115, 116, 111, 112, 10]), [1, 1])
        self.assertEqual(answers([0, 1, 10]), [1, -1])
        self.assertEqual(answers([1]), [1, 0])
        self.assertEqual(answers([2, 0]), [1, 0])
        self.assertEqual(answers([2, 2, 999, 0]), [1, 2])
        self.assertEqual(answers([2, 1, 1000]), [1, -2])
        self.assertEqual(answers([3]), [3, 0, 0, 0])
        self.assertEqual(answers([4, 0]), [1, -3])
        self.assertEqual(answers([5]), [1, 0])
        self.assertEqual(answers([6, 0]), [1, -2])
        self.assertEqual(answers([7, 0]), [1, -3])
        self.assertEqual(answers([8, 0]), [1, 0])
        self.assertEqual(answers([8, 1, 0]), [1, -4])
        self.assertEqual(answers([9, 0]), [3, 0, 0, 0])
        self.assertEqual(answers([9, 1, 0]), [1, -4])
        self.assertEqual(answers([10, 0, 0]), [1, -3])
        self.assertEqual(answers([10, 0, 1, 0]), [1, -3])
        self.assertEqual(answers([11]), [4, 0, 0, 0, 0])

    def test_how_many_numbers_stand_before_each_answer(self):
        calls = [0, 6] + [ord(sign) for sign in "a = 3\n"] + [3, 1, 4, 0, 4, 1, 5, 11]
        self.assertEqual(answers(calls), [
            1, 1,
            3, 0, 1, 0,
            7, 6, 97, 32, 61, 32, 51, 10,
            2, 1, 3,
            1, -3,
            5, 1, 0, 3, 0, 0,
            4, 1, 0, 0, 1,
        ])

    def test_how_many_numbers_stand_before_the_other_answers(self):
        calls = program("a = b", "write a") + [6, 1, 6, 2, 7, 0, 7, 2, 8, 1, 0, 8, 0, 9, 2, 0, 1, 9, 1, 2]
        calls += [10, 1, 1, 1, 10, 1, 1, 0, 10, 1, 1, 2, 11]
        self.assertEqual(answers(calls), [
            1, 2,
            8, 1, 0, 0, 1, 1, 1, 1, 97,
            1, -2,
            7, 1, 1, 97, 1, 1, 98, 0,
            1, -3,
            7, 6, 97, 32, 61, 32, 98, 10,
            1, 0,
            4, 0, 2, 1, 0,
            1, -4,
            1, 1,
            2, 0, 0,
            1, -4,
            4, 2, 0, 0, 2,
        ])

    def test_rows_that_look_like_calls(self):
        self.assertEqual(answers([2, 3, 3, 1, 11, 2, 2, 11, 5, 11]), [1, 3, 1, 2, 4, 0, 0, 2, 0])
        self.assertEqual(answers([0, 3, 1, 2, 3, 4, 11, 2, 7, 3, 3, 3, 3, 3, 3, 3, 1]), [1, -1, 1, -3, 1, -2, 1, 0])

    def test_lists_of_lines_that_look_like_calls(self):
        calls = program(*["write 1"] * 12) + [9, 3, 1, 3, 5, 10, 5, 3, 3, 5, 11, 9, 2, 11, 3, 10, 12, 2, 3, 11]
        self.assertEqual(answers(calls + [8, 1, 12, 9, 1, 11]), [
            1, 12,
            6, 0, 3, 3, 1, 1, 1,
            1, 1,
            1, -4,
            1, -3,
            1, -4,
            4, 0, 1, 1, 1,
        ])

    def test_a_refused_call_is_passed_over_whole(self):
        calls = program_of([3] * 50) + inputs(*[11] * 20) + values(1000) + inputs(-1, 3, 3) + SIZE
        self.assertEqual(answers(calls), [1, -1, 1, -2, 1, -3, 1, -2, 4, 0, 0, 0, 0])
        calls = step(3) + info(3) + only(*[3] * 20) + runonly(*[11] * 20) + same(3, *[11] * 20) + same(-FAR, FAR) + SIZE
        self.assertEqual(answers(calls), [1, -2, 1, -3, 1, -4, 1, -4, 1, -3, 1, -3, 4, 0, 0, 0, 0])
        calls = program("stop") + same(0, *[11] * 20) + same(0, *[FAR] * 3) + only(-FAR) + SIZE
        self.assertEqual(answers(calls), [1, 1, 1, -4, 1, -4, 1, -4, 4, 1, 0, 0, 1])

    def test_whole_numbers_in_a_list(self):
        told = answers([number for call, _ in ALL_TWELVE + REFUSED for number in call])
        self.assertIs(type(told), list)
        self.assertEqual({type(number) for number in told}, {int})

    def test_what_was_handed_in_is_unchanged(self):
        calls = [number for call, _ in ALL_TWELVE + REFUSED for number in call]
        calls += only(*range(8)) + runonly(*range(8)) + same(0, *range(8)) + only() + runonly() + same(0)
        before = list(calls)
        answers(calls)
        self.assertEqual(calls, before)
        self.assertEqual({type(number) for number in calls}, {int})

    def test_no_number_below_0_but_a_refusal(self):
        told = ask(*[call for call, _ in ALL_TWELVE + REFUSED])
        for answer in told[:len(ALL_TWELVE)]:
            self.assertGreaterEqual(min(answer), 0)
        self.assertEqual(told[len(ALL_TWELVE):], [right for _, right in REFUSED])

    def test_40_calls(self):
        calls = [program(*EXAMPLE), inputs(3)] + [TRACE] * 38
        told = ask(*calls)
        self.assertEqual(told[:2], [[8], [1]])
        self.assertEqual(told[2:], [told[2]] * 38)
        self.assertEqual(len(told[2]), 88)

    def test_40_of_each_call(self):
        for call, right in ALL_TWELVE[6:]:
            told = ask(program(*EXAMPLE), inputs(3), *[call] * 38)
            self.assertEqual(told[2:], [right] * 38)

    def test_40_programs_of_a_thousand_bytes(self):
        self.assertEqual(ask(*[program_of("a" * 1000)] * 16), [[-1]] * 16)
        self.assertEqual(ask(*[program("stop")] * 40), [[1]] * 40)

    def test_calls_in_any_order(self):
        told = ask(RUN, inputs(3), TRACE, SHOW, program(*EXAMPLE), values(7), inputs(), SIZE, SHOW, values(7))
        self.assertEqual(told, [
            [0, 0, 0], [1], [0], [0], [8], [1, 6], [0], [8, 2, 0, 4], shown(*EXAMPLE), [1, 0],
        ])

    def test_all_twelve_on_one_object(self):
        told = ask(*[call for call, _ in ALL_TWELVE])
        for (call, right), answer in zip(ALL_TWELVE, told):
            if right is not None:
                self.assertEqual(answer, right, call)
        self.assertEqual(len(told[5]), 88)

    def test_all_twelve_the_other_way_round(self):
        told = ask(*[call for call, _ in reversed(ALL_TWELVE)])
        self.assertEqual(told, [
            [0, 0, 0, 0], [-3], [-4], [-4], [-3], [-2], [0], [-3], [0, 0, 0], [1], [0], [8],
        ])

    def test_asking_and_being_refused_change_nothing(self):
        asking = ALL_TWELVE[3:] + ALL_TWELVE[1:2]
        right = ask(program(*EXAMPLE), inputs(3), *[call for call, _ in asking])[2:]
        for between, answer in REFUSED + asking:
            told = ask(program(*EXAMPLE), inputs(3), between, *[call for call, _ in asking])
            self.assertEqual(told[3:], right, between)
            if answer is not None:
                self.assertEqual(told[2], answer)

    def test_another_program_and_another_input_between(self):
        told = ask(
            program(*EXAMPLE), inputs(3), runonly(0, 7), program(*ELSES), step(1), info(8), only(1, 9),
            same(9, 0, 1, 9), inputs(1), runonly(0, 1, 2), same(9, 0, 1, 2), step(2), program(), only(), runonly(),
            only(0), step(0),
        )
        self.assertEqual(told, [
            [8], [1], [0, 2, 1, 0], [11],
            [1, 0, 0, 1, 1] + texts("a"),
            [3, 0] + texts() + [2, 1, 3],
            shown("if a == 1:", "else:", "  write 7"),
            [1], [1], [0, 3, 1, 1], [1],
            [2, 1, 2, 0] + texts(),
            [0], [0], [0, 0, 0], [-4], [-2],
        ])


class NothingIsKept(unittest.TestCase):
    def test_a_new_object_for_each_list(self):
        answers(program(*EXAMPLE) + inputs(3) + RUN)
        self.assertEqual(answers(SHOW + SIZE + RUN + TRACE), [1, 0, 4, 0, 0, 0, 0, 3, 0, 0, 0, 1, 0])
        self.assertEqual(answers(program("read a", "write a") + RUN), [1, 2, 4, 0, 2, 1, 0])
        calls = step(0) + info(0) + only(0) + runonly(0) + same(0)
        self.assertEqual(answers(calls), [1, -2, 1, -3, 1, -4, 1, -4, 1, -3])

    def test_the_same_list_again(self):
        calls = [number for call, _ in ALL_TWELVE for number in call]
        once = answers(calls)
        self.assertEqual(answers(calls), once)
        answers(program("write 1") + inputs(1000) + program("stop stop") + RUN)
        self.assertEqual(answers(calls), once)

    def test_what_was_given_back_may_be_changed(self):
        for calls in ([11], [1], program("a = 1") + SHOW + TRACE, program("a = b") + info(0) + step(0) + only(0)):
            once = answers(calls)
            kept = list(once)
            once.append(5)
            once[0] = 77
            self.assertEqual(answers(calls), kept)


if __name__ == "__main__":
    unittest.main()
