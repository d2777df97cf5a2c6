"""Promise 1, program: which texts are a program's, and how many lines they have."""

import unittest

from tests.asking import (
    EXAMPLE, RUN, SHOW, SIZE, ask, ask_last, inputs, program, program_of, shown, text_of, values,
)


class ProgramCase(unittest.TestCase):
    def assert_lines(self, count, *rows):
        """These rows are a program of so many lines, and show tells them back."""
        with self.subTest(rows=rows):
            self.assertEqual(ask(program(*rows), SHOW), [[count], shown(*rows)])

    def assert_refused(self, *rows):
        """These rows are no program."""
        self.assert_text_refused(text_of(rows))

    def assert_text_refused(self, text):
        """This text is no program's, and the refusal is its number alone."""
        with self.subTest(text=text):
            self.assertEqual(ask(program_of(text)), [[-1]])


class Statements(ProgramCase):
    def test_no_lines_at_all(self):
        self.assertEqual(ask([0, 0], SHOW), [[0], [0]])

    def test_each_kind_of_statement(self):
        for row in ("a = 1", "a = b", "read a", "write a", "write 7", "stop"):
            self.assert_lines(1, row)

    def test_each_operator(self):
        for sign in "+-*":
            for left in ("a", "0", "99"):
                for right in ("b", "0", "99"):
                    self.assert_lines(1, f"a = {left} {sign} {right}")

    def test_each_relation_in_an_if_and_a_while(self):
        for word in ("if", "while"):
            for sign in ("<", "==", "!="):
                for left in ("a", "7"):
                    for right in ("b", "0"):
                        self.assert_lines(2, f"{word} {left} {sign} {right}:", "  stop")

    def test_other_signs_are_none(self):
        for sign in ("/", "%", "**", "//", "<", "==", "=", "!=", "&", "^", ":", "a"):
            self.assert_refused(f"a = b {sign} c")
        for sign in (">", "<=", ">=", "=", "!", "=<", "=!", "+", "-", "===", "is", "a"):
            self.assert_refused(f"if a {sign} b:", "  stop")
            self.assert_refused(f"while a {sign} b:", "  stop")

    def test_words_missing_or_too_many(self):
        rows = (
            "a", "a =", "= a", "a = b +", "a = + b", "a = b c", "a = b + c +", "a = b + c + d", "a b",
            "a == b", "a + b", "a = = b", "a += b", "= =", "=", "3 = a", "3", "99 = 99", "a = b = c",
            "read", "read a b", "read 3", "read a + b", "read read", "read =", "write", "write a b",
            "write a + b", "write +", "write write", "write =", "stop stop", "stop 1", "stop a", "stops",
            "stop:", "read a:", "write a:", "a = b:", "Stop", "READ a", "Write a", "print a", "reada",
            "read3", "write3", "a=b", "a =b", "a= b", "a = b+c", "a = b +c", "a = b+ c", "pass",
        )
        for row in rows:
            self.assert_refused(row)

    def test_headers_with_words_missing_or_too_many(self):
        for word in ("if", "while"):
            rows = (
                "{}", "{}:", "{} a", "{} a:", "{} a <:", "{} < b:", "{} a < b", "{} a < b c:", "{} a b c:",
                "{} a < b < c:", "{} a < b + c:", "{} a + b < c:", "{} a<b:", "{} a <b:", "{} a< b:",
                "{}: a < b", "{} a < b::", "{} a < b:;", "{} a < b: stop", "{} < < <:", "{} a < <:",
                "{}a < b:", "{} (a < b):", "{} not a < b:", ": a < b:", "{} 1:", "{} a = b:",
            )
            for row in rows:
                self.assert_refused(row.format(word), "  stop")
        for row in ("for a < b:", "elif a < b:", "If a < b:", "WHILE a < b:", "unless a < b:", "a < b:"):
            self.assert_refused(row, "  stop")

    def test_another_sign_for_the_colon(self):
        for word in ("if", "while"):
            for end in ("", "b", "0", "=", "<", "!", "-", ";", ".", " ", "a:a"):
                self.assert_refused(f"{word} a < b{end}", "  stop")
                self.assert_refused(f"{word} a < 1{end}", "  stop")
        for row in ("else", "els:", "else;", "elsea", "else=", "else::", "else a < b:", "elif:"):
            self.assert_refused("if a < b:", "  stop", row, "  stop")

    def test_a_statement_behind_a_colon_is_none(self):
        self.assert_refused("if a < b: stop")
        self.assert_refused("if a < b:", "  stop", "else: stop")

    def test_a_wrong_row_among_right_ones(self):
        for place in range(3):
            rows = ["a = 1", "read b", "write c"]
            rows[place] = "a := 1"
            self.assert_refused(*rows)


class Atoms(ProgramCase):
    PLACES = ("a = {}", "a = {} + b", "a = b * {}", "write {}", "if {} < b:", "while a == {}:")

    def in_each_place(self, word):
        for place in self.PLACES:
            row = place.format(word)
            yield (row, "  stop") if row.endswith(":") else (row,)

    def test_numbers_from_0_to_99(self):
        for number in range(100):
            self.assert_lines(1, f"a = {number}")
        for number in (0, 1, 9, 10, 99):
            for rows in self.in_each_place(number):
                self.assert_lines(len(rows), *rows)

    def test_other_numbers(self):
        wrong = ("100", "101", "999", "1000", "00", "01", "09", "000", "007", "-1", "-0", "+1", "1.5", "1a",
                 "a1", "0x1", "1e1", "1_1")
        for word in wrong:
            for rows in self.in_each_place(word):
                self.assert_refused(*rows)

    def test_names_of_one_to_four_letters(self):
        for name in ("a", "z", "ab", "abc", "abcd", "zzzz", "aaaa", "azby"):
            for rows in self.in_each_place(name):
                self.assert_lines(len(rows), *rows)
            self.assert_lines(1, f"{name} = 1")
            self.assert_lines(1, f"read {name}")

    def test_every_small_letter(self):
        for letter in "abcdefghijklmnopqrstuvwxyz":
            self.assert_lines(1, f"{letter} = {letter}{letter}")

    def test_names_of_five_letters(self):
        for name in ("abcde", "aaaaa", "write", "while", "stops"):
            for rows in self.in_each_place(name):
                self.assert_refused(*rows)
            self.assert_refused(f"{name} = 1")
            self.assert_refused(f"read {name}")

    def test_the_four_words_that_are_no_names(self):
        for word in ("read", "if", "else", "stop"):
            for rows in self.in_each_place(word):
                self.assert_refused(*rows)
            self.assert_refused(f"{word} = 1")
            self.assert_refused(f"{word} = 1 + 2")
            self.assert_refused(f"read {word}")

    def test_words_that_look_like_them_are_names(self):
        for name in ("rea", "reed", "i", "iff", "els", "elsf", "sto", "stap", "writ", "whil", "for", "not",
                     "is", "in", "or", "and", "def", "elif", "pass", "none", "true", "fi", "daer", "pots"):
            self.assert_lines(1, f"{name} = {name} + {name}")
            self.assert_lines(1, f"read {name}")

    def test_names_with_other_signs(self):
        for name in ("A", "Ab", "aB", "a1", "1a", "a_b", "_", "a-b", "a.b", "$", "a'", "a:", ""):
            for rows in self.in_each_place(name):
                self.assert_refused(*rows)
            self.assert_refused(f"{name} = 1")
            self.assert_refused(f"read {name}")


class Blanks(ProgramCase):
    RIGHT = ("a = 1", "a = b + 2", "read a", "write a", "stop")

    def test_two_blanks_for_one(self):
        for row in self.RIGHT + ("if a < b:", "while a != 3:"):
            for place in [at for at, sign in enumerate(row) if sign == " "]:
                wrong = row[:place] + " " + row[place:]
                self.assert_refused(*((wrong, "  stop") if row.endswith(":") else (wrong,)))

    def test_a_tab_for_a_blank(self):
        for row in self.RIGHT[:4]:
            self.assert_refused(row.replace(" ", "\t", 1))
        self.assert_refused("if a < b:", "\tstop")
        self.assert_refused("if a < b:", "\t\tstop")

    def test_a_blank_behind_a_row(self):
        for row in self.RIGHT:
            self.assert_refused(row + " ")
        self.assert_refused("if a < b: ", "  stop")
        self.assert_refused("while a < b: ", "  stop")
        self.assert_refused("if a < b:", "  stop", "else: ", "  stop")

    def test_a_blank_before_the_colon(self):
        self.assert_refused("if a < b :", "  stop")
        self.assert_refused("while a < b :", "  stop")
        self.assert_refused("if a < b:", "  stop", "else :", "  stop")

    def test_blanks_ahead_of_a_row_that_is_in_no_block(self):
        for row in self.RIGHT:
            for count in (1, 2, 3, 4):
                self.assert_refused(" " * count + row)
                self.assert_refused("a = 1", " " * count + row)

    def test_a_block_is_two_blanks_deeper(self):
        for header in ("if a < b:", "while a < b:"):
            self.assert_lines(2, header, "  write a")
            for count in (0, 1, 3, 4, 5, 6):
                self.assert_refused(header, " " * count + "write a")

    def test_rows_of_blanks_alone(self):
        for count in (0, 1, 2, 4):
            self.assert_refused(" " * count)
            self.assert_refused("a = 1", " " * count)
            self.assert_refused(" " * count, "a = 1")
            self.assert_refused("if a < b:", " " * count, "  stop")
            self.assert_refused("if a < b:", "  stop", " " * count)


class Endings(ProgramCase):
    def test_a_text_that_does_not_end_in_the_byte_10(self):
        self.assert_text_refused("stop")
        self.assert_text_refused("a = 1\nstop")
        self.assert_text_refused("if a < b:\n  stop")
        self.assert_text_refused("a = 1\n ")

    def test_rows_with_nothing(self):
        self.assert_text_refused("\n")
        self.assert_text_refused("stop\n\n")
        self.assert_text_refused("\nstop\n")
        self.assert_text_refused("stop\n\nstop\n")

    def test_other_ends_of_rows(self):
        for end in ("\r\n", "\r", "\n\r", "\x0b", "\x0c", "\x1c", "\x85", "\0", ";\n", "\n\0"):
            self.assert_text_refused("a = 1" + end)
            self.assert_text_refused("a = 1" + end + "stop\n")

    def test_every_other_byte_in_a_row(self):
        for byte in range(256):
            text = [ord(sign) for sign in "a = b\n"]
            text[4] = byte
            right = chr(byte) in "abcdefghijklmnopqrstuvwxyz0123456789"
            with self.subTest(byte=byte):
                self.assertEqual(ask(program_of(text)), [[1] if right else [-1]])

    def test_bytes_alone(self):
        for byte in range(256):
            self.assert_text_refused([byte])

    def test_a_thousand_bytes(self):
        self.assert_text_refused("a" * 1000)
        self.assert_text_refused("\n" * 1000)
        self.assert_text_refused(" " * 1000)
        self.assert_text_refused("stop\n" * 200)
        self.assert_text_refused([255] * 1000)

    def test_a_long_program(self):
        block = ["      aaaa = bbbb * cccc"] * 11
        self.assert_lines(14, "while aaaa == bbbb:", "  while aaaa == bbbb:", "    while aaaa == bbbb:", *block)


class Counts(ProgramCase):
    def test_how_many_statements(self):
        for count in range(1, 15):
            self.assert_lines(count, *["a = a + 1"] * count)

    def test_15_statements(self):
        self.assert_refused(*["a = a + 1"] * 15)
        self.assert_refused(*["stop"] * 16)
        self.assert_refused(*["read a"] * 100)

    def test_statements_in_blocks_count(self):
        block = ["  write a"] * 6
        self.assert_lines(14, "while a < b:", *block, "if a < b:", *block)
        self.assert_refused("while a < b:", *block, "if a < b:", *block, "stop")
        self.assert_refused("stop", "while a < b:", *block, "if a < b:", *block)
        self.assert_refused("while a < b:", *block, "if a < b:", *block, "  write a")
        self.assert_lines(14, "if a < b:", *["  write a"] * 13)
        self.assert_refused("if a < b:", *["  write a"] * 14)

    def test_a_header_as_the_14th(self):
        self.assert_lines(14, *["stop"] * 12, "if a < b:", "  stop")
        self.assert_refused(*["stop"] * 13, "if a < b:", "  stop")
        self.assert_refused(*["stop"] * 13, "if a < b:")

    def test_lines_of_else_count_as_none(self):
        self.assert_lines(3, "if a < b:", "  write a", "else:", "  write b")
        self.assert_lines(14, *["stop"] * 11, "if a < b:", "  write a", "else:", "  write b")
        self.assert_refused(*["stop"] * 12, "if a < b:", "  write a", "else:", "  write b")
        four = ["if a < b:", "  write a", "else:", "  write b"] * 4
        self.assert_lines(12, *four)
        self.assert_lines(14, *four, "stop", "stop")
        self.assert_refused(*four, "stop", "stop", "stop")

    def test_the_block_of_an_else_counts(self):
        self.assert_lines(14, "if a < b:", "  stop", "else:", *["  stop"] * 12)
        self.assert_refused("if a < b:", "  stop", "else:", *["  stop"] * 13)


class Blocks(ProgramCase):
    def test_blocks_three_deep(self):
        for words in ("if if if", "while while while", "if while if", "while if while"):
            rows = ["  " * depth + word + " a < b:" for depth, word in enumerate(words.split())]
            self.assert_lines(4, *rows, "      stop")

    def test_blocks_four_deep(self):
        for words in ("if if if if", "while while while while", "if while if while", "while if while if"):
            rows = ["  " * depth + word + " a < b:" for depth, word in enumerate(words.split())]
            self.assert_refused(*rows, "        stop")
            self.assert_refused(*rows, "      stop")
            self.assert_refused(*rows)

    def test_three_and_four_deep_in_an_else(self):
        top = ["if a < b:", "  stop", "else:", "  if a < b:", "    stop", "  else:", "    if a < b:"]
        self.assert_lines(6, *top, "      stop")
        self.assert_lines(7, *top, "      stop", "    else:", "      stop")
        self.assert_refused(*top, "      stop", "    else:", "      while a < b:", "        stop")
        self.assert_refused(*top, "      if a < b:", "        stop")

    def test_a_block_with_nothing_in_it(self):
        for header in ("if a < b:", "while a < b:"):
            self.assert_refused(header)
            self.assert_refused("stop", header)
            self.assert_refused(header, "stop")
            self.assert_refused(header, header, "  stop")
            self.assert_refused("if a < b:", "  " + header)
            self.assert_refused("if a < b:", "  " + header, "stop")
            self.assert_refused("if a < b:", "  " + header, "  stop")

    def test_an_else_with_nothing_in_it(self):
        self.assert_refused("if a < b:", "  stop", "else:")
        self.assert_refused("if a < b:", "  stop", "else:", "stop")
        self.assert_refused("if a < b:", "  if a < b:", "    stop", "  else:", "  stop")
        self.assert_refused("if a < b:", "  if a < b:", "    stop", "  else:", "else:", "  stop")

    def test_an_if_with_nothing_in_it_but_an_else(self):
        self.assert_refused("if a < b:", "else:", "  stop")
        self.assert_refused("if a < b:", "  if a < b:", "  else:", "    stop")
        self.assert_refused("if a < b:", "  if a < b:", "else:", "    stop")

    def test_deeper_without_a_header(self):
        self.assert_refused("a = 1", "  b = 2")
        self.assert_refused("if a < b:", "  stop", "    stop")
        self.assert_refused("if a < b:", "  stop", "else:", "  stop", "    stop")
        self.assert_refused("while a < b:", "  stop", "stop", "  stop")

    def test_out_of_several_blocks_at_once(self):
        top = ["if a < b:", "  while a < b:", "    if a < b:", "      stop"]
        for depth in (0, 1, 2, 3):
            self.assert_lines(5, *top, "  " * depth + "write a")
        for blanks in (1, 3, 5, 7, 8):
            self.assert_refused(*top, " " * blanks + "write a")

    def test_blocks_behind_one_another(self):
        self.assert_lines(8, "if a < b:", "  stop", "while a < b:", "  if a < b:", "    stop", "  if a < b:",
                          "    stop", "stop")


class Elses(ProgramCase):
    def test_an_else_without_an_if(self):
        self.assert_refused("else:", "  stop")
        self.assert_refused("else:")
        self.assert_refused("stop", "else:", "  stop")
        self.assert_refused("if a < b:", "  stop", "stop", "else:", "  stop")
        self.assert_refused("if a < b:", "  else:", "    stop")
        self.assert_refused("if a < b:", "  stop", "  else:", "    stop")

    def test_an_else_of_a_while(self):
        self.assert_refused("while a < b:", "  stop", "else:", "  stop")
        self.assert_refused("if a < b:", "  while a < b:", "    stop", "  else:", "    stop")
        self.assert_refused("while a < b:", "  if a < b:", "    stop", "else:", "  stop")

    def test_an_else_not_as_deep(self):
        for blanks in (1, 2, 3, 4):
            self.assert_refused("if a < b:", "  stop", " " * blanks + "else:", "  stop")
            self.assert_refused("if a < b:", "  stop", " " * blanks + "else:", " " * blanks + "  stop")
        self.assert_refused("while a < b:", "  if a < b:", "    stop", "else:", "  stop")
        self.assert_refused("while a < b:", "  if a < b:", "    stop", "else:", "    stop")

    def test_a_second_else(self):
        self.assert_refused("if a < b:", "  stop", "else:", "  stop", "else:", "  stop")
        self.assert_refused("if a < b:", "  if a < b:", "    stop", "  else:", "    stop", "  else:", "    stop")

    def test_an_else_belongs_to_the_if_as_deep(self):
        self.assert_lines(4, "if a < b:", "  if a < b:", "    stop", "  else:", "    stop")
        self.assert_lines(4, "if a < b:", "  if a < b:", "    stop", "else:", "  stop")
        self.assert_lines(5, "if a < b:", "  if a < b:", "    stop", "  else:", "    stop", "else:", "  stop")
        self.assert_lines(4, "if a < b:", "  while a < b:", "    stop", "else:", "  stop")
        self.assert_lines(5, "if a < b:", "  stop", "else:", "  if a < b:", "    stop", "  else:", "    stop")

    def test_an_else_of_the_second_of_two_ifs(self):
        self.assert_lines(5, "if a < b:", "  stop", "if a < b:", "  stop", "else:", "  stop")
        self.assert_lines(6, "if a < b:", "  stop", "else:", "  stop", "if a < b:", "  stop", "else:", "  stop")

    def test_an_if_behind_an_else_may_have_one(self):
        self.assert_lines(6, "if a < b:", "  stop", "else:", "  if a < b:", "    stop", "  else:", "    stop",
                          "  stop")


class FromNowOn(ProgramCase):
    def test_the_last_program_counts(self):
        told = ask(program("a = 1", "write a"), RUN, program("write 7"), RUN, SHOW, program(), RUN, SHOW, SIZE)
        self.assertEqual(told, [
            [2], [0, 2, 1, 1], [1], [0, 1, 1, 7], shown("write 7"), [0], [0, 0, 0], [0], [0, 0, 0, 0],
        ])

    def test_nothing_of_an_earlier_program_is_left(self):
        told = ask(program("a = 5", "read b", "write b"), inputs(8, 9), RUN, program("write a", "read a", "write a"),
                   RUN, values(1))
        self.assertEqual(told, [[3], [2], [0, 3, 1, 8], [3], [0, 3, 2, 0, 8], [1, 8]])

    def test_the_input_stays(self):
        told = ask(inputs(4, 5), program("read a", "write a"), RUN, program("read b", "read b", "write b"), RUN)
        self.assertEqual(told, [[2], [2], [0, 2, 1, 4], [3], [0, 3, 1, 5]])

    def test_a_refused_program_leaves_everything(self):
        before = [RUN, SHOW, SIZE, values(3), values(8)]
        start = [program(*EXAMPLE), inputs(3)]
        right = ask(*start, *before)[2:]
        for text in ("a = 100\n", "write 1\nwrite\n", "write 1", "if a < b:\n", "\n", "stop\n" * 15,
                     "write 1\nif a < b:\n  write 2\nelse:\n"):
            with self.subTest(text=text):
                told = ask(*start, program_of(text), *before)
                self.assertEqual(told[2:], [[-1]] + right)

    def test_a_refused_program_at_the_beginning(self):
        told = ask(program("write"), SHOW, RUN, SIZE, program("write 1"), program("write"), RUN)
        self.assertEqual(told, [[-1], [0], [0, 0, 0], [0, 0, 0, 0], [1], [-1], [0, 1, 1, 1]])

    def test_a_refusal_stands_behind_its_own_count(self):
        self.assertEqual(ask_last(program("a = 1"), program("a = ")), [-1])


if __name__ == "__main__":
    unittest.main()
