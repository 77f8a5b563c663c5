import unittest

from runbound import errors
from runbound.errors import BadBits, BadBlock, NoNumber, NoRow, NoWindow, RunError

BY_WORDS = (NoNumber, NoRow, NoWindow, BadBits)
REFUSALS = BY_WORDS + (BadBlock,)


class Standing(unittest.TestCase):
    def test_run_error_stands_straight_under_value_error(self):
        self.assertEqual((ValueError,), RunError.__bases__)

    def test_each_refusal_stands_straight_under_run_error(self):
        for refusal in REFUSALS:
            self.assertEqual((RunError,), refusal.__bases__, refusal)

    def test_none_stands_under_another(self):
        for one in REFUSALS:
            for other in REFUSALS:
                self.assertEqual(one is other, issubclass(one, other), (one, other))

    def test_they_bear_their_names(self):
        for name in ("RunError", "NoNumber", "NoRow", "NoWindow", "BadBits", "BadBlock"):
            self.assertEqual(name, getattr(errors, name).__name__)


class Making(unittest.TestCase):
    def test_made_with_words(self):
        for refusal in (RunError,) + BY_WORDS:
            self.assertEqual("no such thing", str(refusal("no such thing")))

    def test_bad_block_is_made_with_its_field(self):
        for block in (0, 7, 10 ** 30):
            self.assertEqual(block, BadBlock(block).block)

    def test_bad_block_is_handed_no_less_and_no_more(self):
        with self.assertRaises(TypeError):
            BadBlock()
        with self.assertRaises(TypeError):
            BadBlock(1, 2)

    def test_each_object_has_its_own_field(self):
        one, other = BadBlock(1), BadBlock(2)
        self.assertEqual((1, 2), (one.block, other.block))

    def test_taken_by_every_name_above(self):
        for refusal in REFUSALS:
            for above in (refusal, RunError, ValueError):
                with self.assertRaises(above):
                    raise refusal(3 if refusal is BadBlock else "words")

    def test_the_field_is_read_where_it_is_taken(self):
        with self.assertRaises(RunError) as taken:
            raise BadBlock(4)
        self.assertEqual(4, taken.exception.block)


if __name__ == "__main__":
    unittest.main()
