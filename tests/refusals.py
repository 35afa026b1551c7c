"""What tests of refusals have in common."""

import unittest

from manydeeds.errors import DeedError


class Refused(unittest.TestCase):
    def refused(self, refusal, deed, *handed):
        with self.assertRaises(DeedError) as taken:
            deed(*handed)
        self.assertIs(taken.exception.__class__, refusal)
        return taken.exception

    def refused_word(self, refusal, word, deed, *handed):
        self.assertEqual(self.refused(refusal, deed, *handed).word, word)

    def refused_number(self, refusal, number, deed, *handed):
        self.assertEqual(self.refused(refusal, deed, *handed).number, number)
