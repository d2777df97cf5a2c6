"""One statement: what it is made of, and how it is read from its line."""

from valueoriginsdesk.refusals import NotAProgram

ASSIGNMENT = 1
READ = 2
WRITE = 3
STOP = 4
IF = 5
WHILE = 6

HEADER_WORDS = ("if", "while")
LETTERS = "abcdefghijklmnopqrstuvwxyz"
LONGEST_NAME = 4
NO_NAMES = ("read", "if", "else", "stop")
LONGEST_NUMBER = 2
OPERATORS = ("+", "-", "*")
RELATIONS = ("<", "==", "!=")


class Statement:
    """A statement, with the name that it sets, its atoms, and the sign between them.

    The headers around it and the lines of its blocks depend on the lines about it:
    they are filled in where the whole program is read.
    """

    def __init__(self, kind, sets, atoms, sign):
        self.kind = kind
        self.sets = sets
        self.atoms = atoms
        self.sign = sign
        self.names = names_among(atoms)
        self.headers = []
        self.block = []
        self.otherwise = []


def is_number(word):
    """Tell whether the word is a number from 0 to 99 without needless zeros."""
    if not word.isdigit() or len(word) > LONGEST_NUMBER:
        return False
    return word == "0" or word[0] != "0"


def is_name(word):
    """Tell whether the word is a name."""
    if word == "" or len(word) > LONGEST_NAME or word in NO_NAMES:
        return False
    return all([sign in LETTERS for sign in word])


def is_atom(word):
    """Tell whether the word is a number or a name."""
    return is_number(word) or is_name(word)


def names_among(atoms):
    """The names among the atoms, in their order, each once."""
    names = []
    for atom in atoms:
        if is_name(atom) and atom not in names:
            names.append(atom)
    return names


def is_header(statement):
    """Tell whether blocks stand below the statement."""
    return statement.kind in (IF, WHILE)


def read_statement(row):
    """The statement that a row tells, without the blanks ahead of it."""
    words = row.split(" ")
    if words[0] in HEADER_WORDS:
        return read_header(row)
    if words == ["stop"]:
        return Statement(STOP, "", [], "")
    if len(words) == 2 and words[0] == "read" and is_name(words[1]):
        return Statement(READ, words[1], [], "")
    if len(words) == 2 and words[0] == "write" and is_atom(words[1]):
        return Statement(WRITE, "", [words[1]], "")
    return read_assignment(words)


def read_header(row):
    """The if or the while that a row tells."""
    if not row.endswith(":"):
        raise NotAProgram()
    words = row[:-1].split(" ")
    if len(words) != 4 or words[2] not in RELATIONS:
        raise NotAProgram()
    atoms = [words[1], words[3]]
    check_atoms(atoms)
    kind = IF if words[0] == "if" else WHILE
    return Statement(kind, "", atoms, words[2])


def read_assignment(words):
    """The assignment that the words of a row tell."""
    if len(words) not in (3, 5) or not is_name(words[0]) or words[1] != "=":
        raise NotAProgram()
    if len(words) == 3:
        atoms = [words[2]]
        sign = ""
    else:
        atoms = [words[2], words[4]]
        sign = words[3]
        if sign not in OPERATORS:
            raise NotAProgram()
    check_atoms(atoms)
    return Statement(ASSIGNMENT, words[0], atoms, sign)


def check_atoms(words):
    """Refuse the program if one of the words is no atom."""
    for word in words:
        if not is_atom(word):
            raise NotAProgram()
