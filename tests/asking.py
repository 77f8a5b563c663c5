"""What all tests of the program share: asking, and looking at all that is told."""

import unittest


def lists_in(thing):
    """All lists and dicts that stand in a thing, itself too."""
    found = []
    waiting = [thing]
    while waiting:
        here = waiting.pop()
        if isinstance(here, (list, dict)):
            found.append(here)
        if isinstance(here, dict):
            waiting.extend(here.values())
        elif isinstance(here, (list, tuple)):
            waiting.extend(here)
    return found


def spoil(thing):
    """Change every list and dict in a thing."""
    for each in lists_in(thing):
        if isinstance(each, dict):
            each["spoilt"] = "spoilt"
        else:
            each.reverse()
            each.append("spoilt")


class Asking(unittest.TestCase):
    def told(self, wanted, deed, *handed):
        """Ask, and hold the answer against what is wanted, to its kinds.

        Answers are held by their repr, which tells True from 1 and a list
        from a tuple. What was handed in must be as it was; the answer must
        bear no list of another's; and to spoil it must change no later one.
        """
        before = repr(handed)
        others = lists_in(handed)
        first = deed(*handed)
        self.assertEqual(repr(wanted), repr(first))
        self.assertEqual(before, repr(handed))
        self.own(first, others)
        others.extend(lists_in(first))
        again = deed(*handed)
        self.own(again, others)
        spoil(first)
        self.assertEqual(repr(wanted), repr(again))
        self.assertEqual(before, repr(handed))
        self.assertEqual(repr(wanted), repr(deed(*handed)))

    def own(self, answer, others):
        """No list of the answer stands twice in it or is one of the others."""
        lists = lists_in(answer)
        places = [id(each) for each in lists]
        self.assertEqual(len(places), len(set(places)))
        self.assertFalse(set(places) & {id(each) for each in others})
