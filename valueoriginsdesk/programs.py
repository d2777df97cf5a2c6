"""A whole program, and how it is read from its text."""

from valueoriginsdesk.refusals import NotAProgram
from valueoriginsdesk.statements import IF, is_header, read_statement

MOST_STATEMENTS = 14
MOST_DEPTH = 3
ELSE = "else:"
INDENT = "  "
# Every sign that can stand in a program's text; a byte that is none of these makes it no program.
SIGNS = "\n !*+-0123456789:<=abcdefghijklmnopqrstuvwxyz"


class Program:
    """A program's text, its rows and statements by their lines, and the lines that stand in no block."""

    def __init__(self, text, rows, statements, top):
        self.text = text
        self.rows = rows
        self.statements = statements
        self.top = top

    def all_lines(self):
        """The numbers of all lines."""
        return list(range(len(self.statements)))

    def depth(self):
        """How deep blocks stand in one another, 0 if there are none."""
        return max([len(statement.headers) for statement in self.statements], default=0)

    def text_alone(self, lines):
        """The text of the program with these lines alone."""
        rows = self.rows_alone(self.top, lines)
        return bytes_of("".join([row + "\n" for row in rows]))

    def rows_alone(self, block, lines):
        """The rows that are left of a block if these lines alone are kept."""
        rows = []
        for line in block:
            if line in lines:
                statement = self.statements[line]
                rows.append(self.rows[line])
                rows.extend(self.rows_alone(statement.block, lines))
                below_else = self.rows_alone(statement.otherwise, lines)
                if below_else != []:
                    rows.append(INDENT * len(statement.headers) + ELSE)
                    rows.extend(below_else)
        return rows


class BlockBuilder:
    """Puts statements, as they come, into the blocks in which they stand."""

    def __init__(self):
        self.statements = []
        self.top = []
        self.around = []
        self.filling = [self.top]
        self.awaits = False

    def add_statement(self, depth, statement):
        """Put a statement below those that came before it."""
        deepest = len(self.around)
        if depth > deepest or (self.awaits and depth < deepest):
            raise NotAProgram()
        if depth > MOST_DEPTH or len(self.statements) == MOST_STATEMENTS:
            raise NotAProgram()
        self.around = self.around[:depth]
        self.filling = self.filling[:depth + 1]
        line = len(self.statements)
        self.statements.append(statement)
        self.filling[depth].append(line)
        statement.headers = list(self.around)
        self.awaits = is_header(statement)
        if self.awaits:
            self.around.append(line)
            self.filling.append(statement.block)

    def add_else(self, depth):
        """Go on in the block of the else of the if whose block was the last one at this depth."""
        if self.awaits or depth >= len(self.around):
            raise NotAProgram()
        header = self.statements[self.around[depth]]
        # No block stays empty, so an else that has lines already is one that was there before.
        if header.kind != IF or header.otherwise != []:
            raise NotAProgram()
        self.around = self.around[:depth + 1]
        self.filling = self.filling[:depth + 1]
        self.filling.append(header.otherwise)
        self.awaits = True


def read_program(text):
    """The program that the bytes of a text tell."""
    builder = BlockBuilder()
    rows = []
    for row in rows_of(text):
        bare = row.lstrip(" ")
        blanks = len(row) - len(bare)
        if blanks % 2 == 1:
            raise NotAProgram()
        if bare == ELSE:
            builder.add_else(blanks // 2)
        else:
            builder.add_statement(blanks // 2, read_statement(bare))
            rows.append(row)
    if builder.awaits:
        raise NotAProgram()
    return Program(list(text), rows, builder.statements, builder.top)


def rows_of(text):
    """The rows of a text, without the byte 10 that ends each."""
    known = {}
    for sign in SIGNS:
        known[ord(sign)] = sign
    signs = []
    for byte in text:
        if byte not in known:
            raise NotAProgram()
        signs.append(known[byte])
    rows = "".join(signs).split("\n")
    if rows[-1] != "":
        raise NotAProgram()
    return rows[:-1]


def bytes_of(signs):
    """The bytes of the signs of a text."""
    return [ord(sign) for sign in signs]
