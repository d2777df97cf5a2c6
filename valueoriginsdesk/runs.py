"""A run of a program: its steps, what each used, and which test let it happen.

A step's mark is its number as it is told: one more than it is, 0 for none.
"""

from valueoriginsdesk.statements import IF, READ, STOP, WHILE, WRITE, is_header

ENDED = 0
STOPPED = 1
LONG = 2

MOST_STEPS = 120
MODULUS = 1000


class Step:
    """One step of a run, with the marks of the test that let it and of the steps it draws from."""

    def __init__(self, line, value, let_by, origins):
        self.line = line
        self.value = value
        self.let_by = let_by
        self.origins = origins


class Run:
    """A run of some lines alone, from its beginning as far as it has come."""

    def __init__(self, statements, lines, numbers):
        self.statements = statements
        self.lines = lines
        self.left = list(numbers)
        self.outcome = ENDED
        self.steps = []
        self.held = {}
        self.setters = {}
        self.last_tests = {}
        self.last_read = 0

    def do_block(self, block):
        """Do those lines of a block that are kept, until the run is stopped or long."""
        for line in block:
            if self.outcome != ENDED:
                return
            if line in self.lines:
                self.do_line(line)

    def do_line(self, line):
        """Do one line, with what stands in its blocks."""
        statement = self.statements[line]
        value = self.make_step(line, self.test_around(statement))
        if statement.kind == WHILE:
            self.do_rounds(line, value)
        elif statement.kind == IF and value == 1:
            self.do_block(statement.block)
        elif statement.kind == IF:
            self.do_block(statement.otherwise)

    def do_rounds(self, line, value):
        """Do the block of a while as long as its test, asked just before with this value, holds."""
        while value == 1:
            self.do_block(self.statements[line].block)
            if self.outcome != ENDED:
                return
            value = self.make_step(line, self.last_tests[line])

    def make_step(self, line, let_by):
        """Make the step of a line and give back its value; a run with no step left stands still."""
        if len(self.steps) == MOST_STEPS:
            self.outcome = LONG
            return 0
        statement = self.statements[line]
        origins = self.origins_of(statement)
        value = self.take_value(statement)
        self.steps.append(Step(line, value, let_by, origins))
        self.note_effects(line, value)
        return value

    def note_effects(self, line, value):
        """Keep what later steps need of the step that was just made."""
        statement = self.statements[line]
        mark = len(self.steps)
        if statement.sets != "":
            self.held[statement.sets] = value
            self.setters[statement.sets] = mark
        if statement.kind == READ:
            self.last_read = mark
        if is_header(statement):
            self.last_tests[line] = mark
        if statement.kind == STOP:
            self.outcome = STOPPED

    def test_around(self, statement):
        """The mark of the last test of the innermost header around a statement."""
        if statement.headers == []:
            return 0
        return self.last_tests[statement.headers[-1]]

    def origins_of(self, statement):
        """The marks of the steps from which what a statement uses comes now."""
        if statement.kind == READ:
            return [self.last_read]
        return [self.setters.get(name, 0) for name in statement.names]

    def uses_of(self, step):
        """The names that a step uses, as its origins stand; the empty one is the input's."""
        statement = self.statements[step.line]
        if statement.kind == READ:
            return [""]
        return list(statement.names)

    def take_value(self, statement):
        """The value of the statement's step; a read takes it from the input."""
        if statement.kind == READ:
            return self.left.pop(0) if self.left != [] else 0
        if statement.kind == STOP:
            return 0
        numbers = [self.number_of(atom) for atom in statement.atoms]
        if len(numbers) == 1:
            return numbers[0]
        return reckon(numbers[0], statement.sign, numbers[1])

    def number_of(self, atom):
        """The number that an atom stands for now."""
        if atom.isdigit():
            return int(atom)
        return self.held.get(atom, 0)

    def output(self):
        """The values of the writes, in order."""
        return [step.value for step in self.steps if self.statements[step.line].kind == WRITE]

    def row_at(self, line):
        """The values of the steps at a line, in order."""
        return [step.value for step in self.steps if step.line == line]


def reckon(left, sign, right):
    """The number that two numbers make with the sign between them; of a test 1 or 0."""
    if sign == "+":
        return (left + right) % MODULUS
    if sign == "-":
        return (left - right) % MODULUS
    if sign == "*":
        return (left * right) % MODULUS
    if sign == "<":
        return int(left < right)
    if sign == "==":
        return int(left == right)
    return int(left != right)


def run_lines(program, lines, numbers):
    """The run of these lines of a program alone on an input, as far as it goes."""
    run = Run(program.statements, lines, numbers)
    run.do_block(program.top)
    return run
