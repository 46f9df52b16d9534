"""Finding rules: promise [23]."""

import unittest
from fractions import Fraction

import plain
from onlyflags.clean import is_clean
from onlyflags.errors import InvalidFlag
from onlyflags.finding import best_rules, clean_words
from onlyflags.shares import share
from plain import NO_WORDS


class TestCleanWords(unittest.TestCase):
    def test_known_flags(self):
        self.assertEqual(clean_words((1, 1)), [(((1,), 0),)])
        self.assertEqual(clean_words((0, 0)), [(((0,), 1),)])

    def test_flags_without_one(self):
        for flag in ((0,), (1,), (0, 1), (1, 0)):
            self.assertEqual(clean_words(flag), [])

    def test_flags_with_several(self):
        self.assertEqual(clean_words((0, 1, 1)), [(((0, 1), 0),), (((1,), 0),)])
        words = [(((0, 1), 0),), (((0, 1, 1), 0),), (((0, 1, 1, 1), 1),), (((1,), 0),), (((1,), 1),), (((1, 1), 0),)]
        self.assertEqual(clean_words((0, 1, 1, 1, 0)), [*words, (((1, 1, 1), 1),)])

    def test_all_words_of_all_flags(self):
        longest = 0
        for flag in plain.words(1, 4):
            told = clean_words(flag)
            inserts = sorted(((word, bit),) for word in plain.words(1, len(flag)) for bit in (0, 1))
            self.assertEqual(told, [one for one in inserts if is_clean((flag, one, 1))])
            longest = max([longest] + [len(word) for ((word, _),) in told])
        self.assertEqual(longest, 3)

    def test_flags_of_five_bits(self):
        for flag in plain.words(5, 5):
            told = clean_words(flag)
            self.assertEqual(told, sorted(told))
            other = tuple(1 - bit for bit in flag)
            turned = [((tuple(1 - bit for bit in word), 1 - put),) for ((word, put),) in told]
            self.assertEqual(clean_words(other), sorted(turned))

    def test_a_plain_reading_of_clean(self):
        for flag in ((1, 1), (0, 1, 1), (1, 0, 1), (1, 1, 1)):
            told = clean_words(flag)
            for word in plain.words(1, len(flag)):
                for bit in (0, 1):
                    rule = (flag, ((word, bit),), 1)
                    breaks = any(plain.breaks(rule, payloads) for payloads in plain.lists_by_signs(6))
                    self.assertIs((((word, bit),) in told), not breaks, repr(rule))


class TestBestRules(unittest.TestCase):
    def test_known_flags(self):
        self.assertEqual(best_rules((1, 1)), [((1, 1), (((1,), 0),), 1)])
        self.assertEqual(best_rules((0, 1)), [])
        self.assertEqual(best_rules((1,)), [])

    def test_several_rules(self):
        flag = (0, 1, 1, 1)
        self.assertEqual(best_rules(flag), [(flag, (((0, 1, 1), 0),), 1), (flag, (((1, 1), 0),), 1)])
        self.assertEqual(best_rules((0, 1, 1, 1, 0)), [((0, 1, 1, 1, 0), (((0, 1, 1, 1), 1),), 1)])

    def test_the_least_share(self):
        several = 0
        for flag in plain.words(1, 5):
            rules = [(flag, inserts, 1) for inserts in clean_words(flag)]
            shares = [Fraction(*share(rule)) for rule in rules]
            expected = [rule for rule, own in zip(rules, shares) if own == min(shares)]
            self.assertEqual(best_rules(flag), expected)
            several += 1 < len(expected) < len(rules)
        self.assertGreater(several, 0)

    def test_ascending(self):
        for flag in plain.words(5, 5):
            told = best_rules(flag)
            self.assertEqual(told, sorted(told))


class TestWrongFlags(unittest.TestCase):
    def test_wrong_flags(self):
        for value in [(), *NO_WORDS, [1, 1], (1, True), "11"]:
            for call in (clean_words, best_rules):
                with self.assertRaises(InvalidFlag):
                    call(value)


if __name__ == "__main__":
    unittest.main()
