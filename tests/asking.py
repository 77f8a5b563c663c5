"""What all tests of the program share: machines, wrong things, asking, and looking at all that is told."""

import itertools
import unittest

FULL = tuple(((room + 1) % 60, (room + 7) % 60) for room in range(60))
CHAIN = tuple((room + 1, room + 1) for room in range(59)) + ((None, None),)
CYCLE = tuple(((room + 1) % 60, None) for room in range(60))


def rows_of(many):
    """The rising list of all rows of so many bits."""
    return ["".join(bits) for bits in itertools.product("01", repeat=many)]


def rows_to(most):
    """The rising list of all rows of up to so many bits."""
    return [row for many in range(most + 1) for row in rows_of(many)]


def machines_of(many):
    """All machines of so many rooms."""
    leads = (None,) + tuple(range(many))
    return itertools.product(itertools.product(leads, repeat=2), repeat=many)


def small_machines():
    for many in range(4):
        yield from machines_of(many)


def nested(depth, wrap):
    """A thing wrapped so many times."""
    thing = wrap(0)
    for _ in range(depth):
        thing = wrap(thing)
    return thing


WRAPS = (lambda x: (x,), lambda x: [x], lambda x: (x, x), lambda x: [x, x], lambda x: (0, x), lambda x: (x, 0))


def deep_things():
    """Things nested a little and beyond what a recursion may go down."""
    return [nested(depth, wrap) for depth in (2, 3, 8, 50000) for wrap in WRAPS]


WRONG = [
    None, True, False, -1, 10 ** 40, -(10 ** 40), "", "x", "2", "0 ", "01\n", "None", (), [], (None,), [None], (True,),
    [False], ("0",), ["1"], ((),), [[]], ([],), [()], (None, None), ["", ""], (True, False), ((1, 2), (3, (4,))),
]


def changed(thing, wrong=tuple(WRONG)):
    """What comes of a thing by one change at any depth.

    A part is another thing, gone, twice there, or a list for a tuple and the
    other way about.
    """
    yield from wrong
    if isinstance(thing, (list, tuple)):
        kind = type(thing)
        yield tuple(thing) if kind is list else list(thing)
        for at, part in enumerate(thing):
            yield thing[:at] + thing[at + 1:]
            yield thing[:at] + kind([part]) + thing[at:]
            for each in changed(part, wrong):
                yield thing[:at] + kind([each]) + thing[at + 1:]


def lists_in(thing):
    """All lists and dicts that stand in a thing, itself too."""
    found = []
    waiting = [thing]
    while waiting:
        here = waiting.pop()
        if isinstance(here, (list, dict)):
            found.append(here)
        if isinstance(here, dict):
            waiting.extend(here.values())
        elif isinstance(here, (list, tuple)):
            waiting.extend(here)
    return found


def spoil(thing):
    """Change every list and dict in a thing."""
    for each in lists_in(thing):
        if isinstance(each, dict):
            each["spoilt"] = "spoilt"
        else:
            each.reverse()
            each.append("spoilt")


class Asking(unittest.TestCase):
    def told(self, wanted, deed, *handed):
        """Ask, and hold the answer against what is wanted, to its kinds.

        Answers are held by their repr, which tells True from 1 and a list
        from a tuple. What was handed in must be as it was; the answer must
        bear no list of another's; and to spoil it must change no later one.
        """
        before = repr(handed)
        others = lists_in(handed)
        first = deed(*handed)
        self.assertEqual(repr(wanted), repr(first))
        self.assertEqual(before, repr(handed))
        self.own(first, others)
        others.extend(lists_in(first))
        again = deed(*handed)
        self.own(again, others)
        spoil(first)
        self.assertEqual(repr(wanted), repr(again))
        self.assertEqual(before, repr(handed))
        self.assertEqual(repr(wanted), repr(deed(*handed)))

    def own(self, answer, others):
        """No list of the answer stands twice in it or is one of the others."""
        lists = lists_in(answer)
        places = [id(each) for each in lists]
        self.assertEqual(len(places), len(set(places)))
        self.assertFalse(set(places) & {id(each) for each in others})

    def refused(self, error, deed, *handed):
        """Ask twice, and see the same refusal, of its very class, and what was handed in as it was."""
        before = repr(handed)
        for _ in range(2):
            with self.assertRaises(error) as caught:
                deed(*handed)
            self.assertIs(error, type(caught.exception))
            self.assertEqual(before, repr(handed))
