"""What several test files need."""

import faulthandler
import random
import signal
import sys
import unittest
from contextlib import contextmanager

from everymeets.errors import MeetError

FORTY_FIGURES = (
    10 ** 39,
    10 ** 40 - 2,
    2 * 3 ** 83 - 2,
    2 ** 132,
    2 ** 132 + 2,
    1234567890123456789012345678901234567890,
)
HUGE = FORTY_FIGURES + (
    2 ** 31,
    2 ** 53 + 2,
    2 ** 63 - 2,
    2 ** 64 + 2,
    10 ** 400 + 2,
    # Of more figures than Python is willing to show.
    2 ** 20000 + 6,
)


class Hostile:
    """An object that fails wherever it is asked for more than its class."""

    def fail(self, *rest):
        raise RuntimeError("asked for more than its class")

    __eq__ = __ne__ = __lt__ = __le__ = __gt__ = __ge__ = fail
    __hash__ = __bool__ = __len__ = __iter__ = __contains__ = fail
    __int__ = __index__ = __mod__ = __sub__ = __add__ = __and__ = fail
    __rsub__ = __radd__ = __str__ = __repr__ = __format__ = fail


def nested():
    """A list that contains itself."""
    rows = []
    rows.append(rows)
    return rows


def no_numbers():
    """Values of kinds that are no numbers, each with a name to show."""
    return [
        ("True", True),
        ("False", False),
        ("None", None),
        ("empty text", ""),
        ("text", "0"),
        ("text of two", "2"),
        ("bytes", b"2"),
        ("empty list", []),
        ("list", [2]),
        ("list within itself", nested()),
        ("empty tuple", ()),
        ("tuple", (2,)),
        ("tuple of two", (0, 1)),
        ("empty dict", {}),
        ("dict", {2: 2}),
        ("set", {2}),
        ("range", range(4)),
        ("class", int),
        ("function", len),
        ("object", object()),
        ("hostile object", Hostile()),
    ]


def no_counts():
    """What is no count of teams."""
    numbers = [0, 1, -1, -2, -4, 3, 5, 7, 21, 101, 10 ** 40 + 1, -(10 ** 40), 2 ** 20000 + 1]
    return no_numbers() + [("number at " + str(at), one) for at, one in enumerate(numbers)]


def outside(bound):
    """What is no number from 0 to below bound."""
    numbers = [-1, -2, -bound, bound, bound + 1, 2 * bound, 10 * bound ** 2, -(10 ** 40)]
    return no_numbers() + [("number at " + str(at), one) for at, one in enumerate(numbers)]


@contextmanager
def at_once(seconds=20):
    """Fail if what stands inside is not done within some seconds."""

    def stop(signum, frame):
        raise AssertionError("not answered at once")

    before = signal.signal(signal.SIGALRM, stop)
    signal.alarm(seconds)
    # An alarm waits for the end of a single long reckoning, this one does not.
    faulthandler.dump_traceback_later(3 * seconds, exit=True, file=sys.__stderr__)
    try:
        yield
    finally:
        faulthandler.cancel_dump_traceback_later()
        signal.alarm(0)
        signal.signal(signal.SIGALRM, before)


def drawn(bound, many, seed):
    """Some numbers from 0 to below bound: the edges, the middle, and drawn ones."""
    source = random.Random(seed)
    half = bound // 2
    picked = [0, 1, 2, 3, half - 1, half, half + 1, bound - 3, bound - 2, bound - 1]
    picked += [source.randrange(bound) for _ in range(many)]
    return [number for number in dict.fromkeys(picked) if 0 <= number < bound]


class RefusalCase(unittest.TestCase):
    def refused(self, kind, function, *given):
        """Check that just this class is told, at once."""
        with at_once():
            try:
                function(*given)
            except MeetError as told:
                found = type(told)
            else:
                found = None
        self.assertIs(found, kind, function.__name__)
