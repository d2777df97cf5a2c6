"""How the tests tell calls and take their answers apart."""

from valueoriginsdesk.runner import answers

SHOW = [1]
RUN = [3]
TRACE = [5]
SIZE = [11]

EXAMPLE = (
    "read a",
    "s = 0",
    "while 0 < a:",
    "  s = s + a",
    "  a = a - 1",
    "  if s == 3:",
    "    write a",
    "write s",
)


def text_of(rows):
    """The text of some rows, each ended by the byte 10."""
    return "".join(row + "\n" for row in rows)


def program(*rows):
    """The call program with the text of these rows."""
    return program_of(text_of(rows))


def program_of(text):
    """The call program with this text, or with these bytes."""
    told = [ord(sign) for sign in text] if isinstance(text, str) else list(text)
    return [0, len(told)] + told


def inputs(*numbers):
    """The call inputs."""
    return [2, len(numbers)] + list(numbers)


def values(line):
    """The call values."""
    return [4, line]


def shown(*rows):
    """What show answers of a program of these rows."""
    text = text_of(rows)
    return [len(text)] + [ord(sign) for sign in text]


def ask(*calls):
    """What each of these calls answers, made in order on one new object."""
    told = answers([number for call in calls for number in call])
    parted = []
    while told:
        parted.append(told[1:1 + told[0]])
        told = told[1 + told[0]:]
    if len(parted) != len(calls):
        raise AssertionError(f"{len(calls)} calls, but {len(parted)} answers: {parted}")
    return parted


def ask_last(*calls):
    """What the last of these calls answers."""
    return ask(*calls)[-1]


def trace_of(rows, numbers=()):
    """The steps of a run as trace tells them: (line, value, let by, where from)."""
    told = ask_last(program(*rows), inputs(*numbers), TRACE)
    count, told = told[0], told[1:]
    steps = []
    while told:
        end = 4 + told[3]
        steps.append((told[0], told[1], told[2], told[4:end]))
        told = told[end:]
    if len(steps) != count:
        raise AssertionError(f"{count} steps are told of, but {len(steps)} told")
    return steps
