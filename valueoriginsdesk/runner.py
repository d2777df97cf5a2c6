"""Calls that are told in one list of whole numbers, and their answers in another."""

from valueoriginsdesk.desk import Desk
from valueoriginsdesk.refusals import NoSuchLine, NoSuchStep, NotAnInput, NotAProgram, NotSomeLines

PROGRAM = 0
SHOW = 1
INPUTS = 2
RUN = 3
VALUES = 4
TRACE = 5
STEP = 6
INFO = 7
ONLY = 8
RUNONLY = 9
SAME = 10
SIZE = 11


class UnknownCall(Exception):
    """There is no call with this number."""


class CallReader:
    """Takes the numbers of the calls one after the other and leaves their list as it is."""

    def __init__(self, calls):
        self.calls = calls
        self.place = 0

    def has_more(self):
        """Tell whether another call follows."""
        return self.place < len(self.calls)

    def take_number(self):
        """The number that comes now."""
        number = self.calls[self.place]
        self.place += 1
        return number

    def take_row(self):
        """The row that comes now, behind how many numbers it has."""
        length = self.take_number()
        row = self.calls[self.place:self.place + length]
        self.place += length
        return row


def answers(calls):
    """The answers of the calls on one new object, each behind how many numbers it has."""
    desk = Desk()
    reader = CallReader(calls)
    told = []
    while reader.has_more():
        answer = answer_or_refusal(desk, reader)
        told.append(len(answer))
        told.extend(answer)
    return told


def answer_or_refusal(desk, reader):
    """The numbers that the next call answers; of a refused one its refusal alone."""
    try:
        return answer_next(desk, reader)
    except NotAProgram:
        return [-1]
    except NotAnInput:
        return [-2]
    except NoSuchStep:
        return [-2]
    except NoSuchLine:
        return [-3]
    except NotSomeLines:
        return [-4]


def answer_next(desk, reader):
    """Make the next call on the desk."""
    call = reader.take_number()
    if call == PROGRAM:
        return desk.take_program(reader.take_row())
    if call == SHOW:
        return desk.tell_text()
    if call == INPUTS:
        return desk.take_numbers(reader.take_row())
    if call == RUN:
        return desk.tell_account()
    if call == VALUES:
        return desk.tell_row(reader.take_number())
    if call == TRACE:
        return desk.tell_trace()
    if call == STEP:
        return desk.tell_step(reader.take_number())
    if call == INFO:
        return desk.tell_statement(reader.take_number())
    if call == ONLY:
        return desk.tell_text_alone(reader.take_row())
    if call == RUNONLY:
        return desk.tell_account_alone(reader.take_row())
    if call == SAME:
        line = reader.take_number()
        return desk.tell_same(line, reader.take_row())
    if call == SIZE:
        return desk.tell_size()
    raise UnknownCall()
