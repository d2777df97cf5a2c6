"""How the tests tell calls and take their answers apart."""

from valueoriginsdesk.runner import answers

SHOW = [1]
RUN = [3]
TRACE = [5]
SIZE = [11]

FAR = 10 ** 18

EXAMPLE = (
    "read a",
    "s = 0",
    "while 0 < a:",
    "  s = s + a",
    "  a = a - 1",
    "  if s == 3:",
    "    write a",
    "write s",
)

ELSES = (
    "read a",                   # 0
    "if a == 1:",               # 1
    "  write 1",                # 2
    "else:",
    "  if a == 2:",             # 3
    "    write 2",              # 4
    "  else:",
    "    while a != 0:",        # 5
    "      write a",            # 6
    "      a = a - 1",          # 7
    "    write 4",              # 8
    "  write 7",                # 9
    "write 8",                  # 10
)

# Lists that are not of the example's lines, rising, no two alike.
NO_LISTS = (
    [8], [9], [14], [1000], [FAR], [-1], [-2], [-8], [-FAR], [0, 8], [7, 8], [-1, 0], [0, -1], list(range(9)),
    [0, 0], [7, 7], [3, 4, 4], [0, 1, 1, 2], [1, 0], [7, 6, 5], [0, 2, 1], [1, 2, 0], [0, 1, 2, 3, 4, 5, 7, 6],
    [0] * 20, list(range(20)), [FAR] * 20, [0, FAR], [-FAR, 0], [FAR, 0], [0, -FAR], [3, FAR, 4], [8, 0],
)


def text_of(rows):
    """The text of some rows, each ended by the byte 10."""
    return "".join(row + "\n" for row in rows)


def program(*rows):
    """The call program with the text of these rows."""
    return program_of(text_of(rows))


def program_of(text):
    """The call program with this text, or with these bytes."""
    told = [ord(sign) for sign in text] if isinstance(text, str) else list(text)
    return [0, len(told)] + told


def inputs(*numbers):
    """The call inputs."""
    return [2, len(numbers)] + list(numbers)


def values(line):
    """The call values."""
    return [4, line]


def step(number):
    """The call step."""
    return [6, number]


def info(line):
    """The call info."""
    return [7, line]


def only(*lines):
    """The call only."""
    return [8, len(lines)] + list(lines)


def runonly(*lines):
    """The call runonly."""
    return [9, len(lines)] + list(lines)


def same(line, *lines):
    """The call same: a line, and some lines."""
    return [10, line, len(lines)] + list(lines)


def lists_of_lines(count):
    """Every list of lines of a program of so many lines."""
    return [[line for line in range(count) if number >> line & 1] for number in range(2 ** count)]


def texts(*words):
    """A list of texts, as it is told."""
    told = [len(words)]
    for word in words:
        told += [len(word)] + [ord(sign) for sign in word]
    return told


def shown(*rows):
    """What show answers of a program of these rows, and only where these rows are left."""
    text = text_of(rows)
    return [len(text)] + [ord(sign) for sign in text]


def ask(*calls):
    """What each of these calls answers, made in order on one new object."""
    told = answers([number for call in calls for number in call])
    parted = []
    while told:
        parted.append(told[1:1 + told[0]])
        told = told[1 + told[0]:]
    if len(parted) != len(calls):
        raise AssertionError(f"{len(calls)} calls, but {len(parted)} answers: {parted}")
    return parted


def ask_last(*calls):
    """What the last of these calls answers."""
    return ask(*calls)[-1]


def trace_of(rows, numbers=()):
    """The steps of a run as trace tells them: (line, value, let by, where from)."""
    told = ask_last(program(*rows), inputs(*numbers), TRACE)
    count, told = told[0], told[1:]
    steps = []
    while told:
        end = 4 + told[3]
        steps.append((told[0], told[1], told[2], told[4:end]))
        told = told[end:]
    if len(steps) != count:
        raise AssertionError(f"{count} steps are told of, but {len(steps)} told")
    return steps
