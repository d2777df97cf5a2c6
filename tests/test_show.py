"""Promise 2, show: the program's text."""

import unittest

from tests.asking import EXAMPLE, RUN, SHOW, ask, ask_last, inputs, program, shown


class Show(unittest.TestCase):
    def test_at_the_beginning(self):
        self.assertEqual(ask(SHOW, SHOW), [[0], [0]])

    def test_its_bytes_behind_how_many_they_are(self):
        self.assertEqual(ask_last(program("a = 1"), SHOW), [6, 97, 32, 61, 32, 49, 10])

    def test_every_sign_of_a_program(self):
        rows = (
            "abcd = efgh + 12", "ijkl = mnop - 34", "qrst = uvwx * 56", "yz = 7", "read abcd", "write 89",
            "if 0 < 1:", "  while a == b:", "    if c != d:", "      stop", "    else:", "      write e",
            "else:", "  stop", "write 0",
        )
        self.assertEqual(ask(program(*rows), SHOW), [[13], shown(*rows)])

    def test_rows_of_else_are_shown(self):
        rows = ("if a < b:", "  write 1", "else:", "  write 2")
        self.assertEqual(ask(program(*rows), SHOW), [[3], shown(*rows)])

    def test_again_and_after_other_calls(self):
        told = ask(program(*EXAMPLE), SHOW, inputs(3), RUN, SHOW, SHOW)
        self.assertEqual([told[1], told[4], told[5]], [shown(*EXAMPLE)] * 3)

    def test_the_program_of_now(self):
        told = ask(program("write 1"), SHOW, program("stop"), SHOW, program("go"), SHOW, program(), SHOW)
        self.assertEqual(told[1::2], [shown("write 1"), shown("stop"), shown("stop"), [0]])


if __name__ == "__main__":
    unittest.main()
