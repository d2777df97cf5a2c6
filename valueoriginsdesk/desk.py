"""The object on which calls are made: a program and an input, and what is told of them."""

from valueoriginsdesk.programs import read_program
from valueoriginsdesk.refusals import NoSuchLine, NotAnInput
from valueoriginsdesk.runs import run_program

MOST_NUMBERS = 6
LARGEST_NUMBER = 999


class Desk:
    """A program and an input. Each call gives back the numbers that are told, or raises a refusal."""

    def __init__(self):
        self.program = read_program([])
        self.numbers = []

    def take_program(self, text):
        """Have the program of this text from now on; tell how many lines it has."""
        self.program = read_program(text)
        return [len(self.program.statements)]

    def tell_text(self):
        """Tell the program's text."""
        return counted(self.program.text)

    def take_numbers(self, numbers):
        """Have this input from now on; tell how many numbers it has."""
        if len(numbers) > MOST_NUMBERS:
            raise NotAnInput()
        for number in numbers:
            if number < 0 or number > LARGEST_NUMBER:
                raise NotAnInput()
        self.numbers = list(numbers)
        return [len(numbers)]

    def tell_account(self):
        """Tell how the run ends, how many steps it has, and its output."""
        run = self.make_run()
        return [run.outcome, len(run.steps)] + counted(run.output())

    def tell_row(self, line):
        """Tell the row of values at a line in the run."""
        if line < 0 or line >= len(self.program.statements):
            raise NoSuchLine()
        return counted(self.make_run().row_at(line))

    def tell_trace(self):
        """Tell of each step of the run its line, its value, what let it, and its origins."""
        run = self.make_run()
        told = [len(run.steps)]
        for step in run.steps:
            told.extend([step.line, step.value, step.let_by])
            told.extend(counted(step.origins))
        return told

    def tell_size(self):
        """Tell how many lines, how deep, how many numbers of input and how many steps there are."""
        program = self.program
        run = self.make_run()
        return [len(program.statements), program.depth(), len(self.numbers), len(run.steps)]

    def make_run(self):
        """The run of the program on the input."""
        return run_program(self.program, self.numbers)


def counted(row):
    """A text or a list as it is told: how many things it has, and then they."""
    return [len(row)] + row
