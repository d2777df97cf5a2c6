"""The object on which calls are made: a program and an input, and what is told of them."""

from valueoriginsdesk.programs import bytes_of, read_program
from valueoriginsdesk.refusals import NoSuchLine, NoSuchStep, NotAnInput, NotSomeLines
from valueoriginsdesk.runs import run_lines

MOST_NUMBERS = 6
LARGEST_NUMBER = 999


class Desk:
    """A program and an input. Each call gives back the numbers that are told, or raises a refusal."""

    def __init__(self):
        self.program = read_program([])
        self.numbers = []

    def take_program(self, text):
        """Have the program of this text from now on; tell how many lines it has."""
        self.program = read_program(text)
        return [len(self.program.statements)]

    def tell_text(self):
        """Tell the program's text."""
        return counted(self.program.text)

    def take_numbers(self, numbers):
        """Have this input from now on; tell how many numbers it has."""
        if len(numbers) > MOST_NUMBERS:
            raise NotAnInput()
        for number in numbers:
            if number < 0 or number > LARGEST_NUMBER:
                raise NotAnInput()
        self.numbers = list(numbers)
        return [len(numbers)]

    def tell_account(self):
        """Tell how the run ends, how many steps it has, and its output."""
        return account_of(self.make_run())

    def tell_row(self, line):
        """Tell the row of values at a line in the run."""
        self.check_line(line)
        return counted(self.make_run().row_at(line))

    def tell_trace(self):
        """Tell of each step of the run its line, its value, what let it, and its origins."""
        run = self.make_run()
        told = [len(run.steps)]
        for step in run.steps:
            told.extend(traced(step))
        return told

    def tell_step(self, number):
        """Tell of one step of the run what the trace tells of it, and the names that it uses."""
        run = self.make_run()
        if number < 0 or number >= len(run.steps):
            raise NoSuchStep()
        step = run.steps[number]
        return traced(step) + counted_texts(run.uses_of(step))

    def tell_statement(self, line):
        """Tell of a line what it is, the name that it sets, the names that it uses, its headers."""
        self.check_line(line)
        statement = self.program.statements[line]
        told = [statement.kind] + counted_text(statement.sets)
        return told + counted_texts(statement.names) + counted(statement.headers)

    def tell_text_alone(self, lines):
        """Tell the text of the program with these lines alone."""
        self.check_lines(lines)
        return counted(self.program.text_alone(lines))

    def tell_account_alone(self, lines):
        """Tell of the run of these lines alone what is told of the run."""
        self.check_lines(lines)
        return account_of(self.make_run_alone(lines))

    def tell_same(self, line, lines):
        """Tell if the row of values at a line stays the same with these lines alone, else where it differs."""
        self.check_line(line)
        self.check_lines(lines)
        row = self.make_run().row_at(line)
        row_alone = self.make_run_alone(lines).row_at(line)
        if row == row_alone:
            return [1]
        return [0, first_difference(row, row_alone)]

    def tell_size(self):
        """Tell how many lines, how deep, how many numbers of input and how many steps there are."""
        program = self.program
        run = self.make_run()
        return [len(program.statements), program.depth(), len(self.numbers), len(run.steps)]

    def check_line(self, line):
        """Refuse a number that is no line's."""
        if line < 0 or line >= len(self.program.statements):
            raise NoSuchLine()

    def check_lines(self, lines):
        """Refuse a list that is not of lines, rising, no two alike."""
        # Numbers that rise from 0 or more need no other look at whether one is below 0 or stands twice.
        last = -1
        for line in lines:
            if line <= last or line >= len(self.program.statements):
                raise NotSomeLines()
            last = line

    def make_run(self):
        """The run of the program on the input."""
        return self.make_run_alone(self.program.all_lines())

    def make_run_alone(self, lines):
        """The run of these lines alone on the input."""
        return run_lines(self.program, lines, self.numbers)


def account_of(run):
    """A run's account, as it is told."""
    return [run.outcome, len(run.steps)] + counted(run.output())


def traced(step):
    """A step, as the trace tells it."""
    return [step.line, step.value, step.let_by] + counted(step.origins)


def counted(row):
    """A list or the bytes of a text as they are told: how many things there are, and then they."""
    return [len(row)] + row


def counted_text(signs):
    """A text of signs as it is told."""
    return counted(bytes_of(signs))


def counted_texts(texts):
    """A list of texts as it is told: how many texts, and then each."""
    told = [len(texts)]
    for signs in texts:
        told.extend(counted_text(signs))
    return told


def first_difference(left, right):
    """The first place at which two unlike lists differ, or that one of them has not."""
    place = 0
    for one, other in zip(left, right):
        if one != other:
            return place
        place += 1
    return place
