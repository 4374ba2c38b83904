"""The words that name streets which the package makes."""

import unittest

from gatequarters.quarters import is_word
from gatequarters.words import word_at


class Words(unittest.TestCase):
    def test_words_in_their_order(self):
        told = [word_at(number) for number in range(26 * 26 + 26 + 2)]
        self.assertEqual(told[:3] + told[25:29], ["a", "b", "c", "z", "aa", "ab", "ac"])
        self.assertEqual(told[51:54] + told[-3:], ["az", "ba", "bb", "zz", "aaa", "aab"])
        self.assertEqual(len(set(told)), len(told))
        self.assertEqual(told, sorted(told, key=lambda word: (len(word), word)))
        self.assertTrue(all(is_word(word) for word in told))


if __name__ == "__main__":
    unittest.main()
