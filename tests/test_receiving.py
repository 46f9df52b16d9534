"""Receiving: promises [9] and [10]."""

import unittest

import plain
from onlyflags.errors import InvalidBits, InvalidRule
from onlyflags.receiving import answers, borders, is_stream, loose
from onlyflags.rules import stream
from plain import A, B, NO_RULES, NO_WORDS

TWO_ONES = ((1, 1), (((1,), 0),), 1)
NO_INSERTS = ((0, 1, 0), (), 1)


class TestBorders(unittest.TestCase):
    def test_borders(self):
        self.assertEqual(borders(A, ()), [])
        self.assertEqual(borders(A, (0, 1, 1)), [])
        self.assertEqual(borders(A, (0, 1, 1, 0)), [0])
        self.assertEqual(borders(A, (1, 0, 1, 1, 0, 0, 1, 1, 0, 1)), [1, 5])

    def test_borders_that_overlap(self):
        self.assertEqual(borders(NO_INSERTS, (0, 1, 0, 1, 0, 1, 0)), [0, 2, 4])
        self.assertEqual(borders(TWO_ONES, (1, 1, 1, 1)), [0, 1, 2])
        self.assertEqual(borders(((1,), (), 1), (1, 1, 0, 1)), [0, 1, 3])

    def test_against_the_plain_reading(self):
        rows = plain.words(0, 7)
        for flag in plain.words(1, 4):
            for bits in rows:
                self.assertEqual(borders((flag, (), 1), bits), plain.borders_of((flag, (), 1), bits))


class TestAnswers(unittest.TestCase):
    def test_nothing_between(self):
        for bits in ((), (0,), (1, 1, 0), (0, 1, 1, 0), (1, 0, 1, 1, 0, 0)):
            self.assertEqual(answers(A, bits), [])

    def test_payloads(self):
        self.assertEqual(answers(TWO_ONES, (1, 1, 0, 1, 1)), [()])
        self.assertEqual(answers(TWO_ONES, (0, 1, 1, 0, 1, 0, 0, 1, 1, 0, 1, 1, 0)), [(1, 0), ()])
        self.assertEqual(answers(((0, 1), (), 1), (0, 1, 1, 1, 0, 0, 1)), [(1, 1, 0)])

    def test_overlap(self):
        self.assertEqual(answers(TWO_ONES, (1, 1, 1, 1)), ["overlap", "overlap"])
        self.assertEqual(answers(NO_INSERTS, (0, 1, 0, 1, 0)), ["overlap"])
        self.assertEqual(answers(B, (1, 0, 1, 0, 1, 1, 0, 1)), ["overlap", ()])
        # A border straight behind the flag does not overlap it.
        self.assertEqual(answers(NO_INSERTS, (0, 1, 0, 0, 1, 0)), [()])
        self.assertEqual(answers(((1,), (), 1), (1, 1, 0, 1)), [(), (0,)])

    def test_bit(self):
        self.assertEqual(answers(A, (0, 1, 1, 0, 1, 1, 1, 0, 1, 1, 0)), ["bit"])
        put_one = ((0, 1, 0), (((0,), 1),), 1)
        self.assertEqual(answers(put_one, (0, 1, 0, 0, 0, 1, 0)), ["bit"])

    def test_short(self):
        self.assertEqual(answers(A, (0, 1, 1, 0, 0, 1, 0, 1, 1, 0)), ["short"])
        # The bit that has to be put in behind the flag itself is missing.
        self.assertEqual(answers(((0, 1), (((1,), 0),), 1), (0, 1, 0, 1)), ["short"])

    def test_short_comes_ahead_of_check(self):
        self.assertEqual(answers(((0, 1, 1, 0), (((1,), 0),), 4), (0, 1, 1, 0, 1, 0, 1, 1, 0)), ["short"])

    def test_too_few_bits_for_the_check(self):
        for check, few in ((2, 1), (3, 2), (4, 2), (5, 3), (16, 4)):
            rule = ((1, 1), (((1,), 0),), check)
            for size in range(few + 2):
                expected = ["check"] if size < few else [(0,) * (size - few)]
                self.assertEqual(answers(rule, (1, 1, 0) + (0,) * size + (1, 1)), expected)

    def test_wrong_checks(self):
        rule = ((0, 0), (((0,), 1),), 3)
        # Behind the flag a 1 is put in; the payload is 1, and its check has to be 01.
        self.assertEqual(answers(rule, (0, 0, 1, 1, 0, 1, 1, 0, 0)), [(1,)])
        self.assertEqual(answers(rule, (0, 0, 1, 1, 1, 0, 1, 0, 0)), ["check"])
        self.assertEqual(answers(rule, (0, 0, 1, 1, 0, 1, 0, 1, 0, 0)), ["check"])
        # No number mod 3 is 3.
        self.assertEqual(answers(rule, (0, 0, 1, 1, 1, 1, 1, 1, 0, 0)), ["check"])

    def test_words_longer_than_the_flag_reach_into_it(self):
        rule = ((1, 0), (((1, 0, 0), 1),), 1)
        self.assertEqual(answers(rule, (1, 0, 0, 1, 1, 0)), [(0,)])
        self.assertEqual(answers(rule, (1, 0, 0, 0, 1, 0)), ["bit"])
        self.assertEqual(answers(rule, (1, 0, 0, 1, 0)), ["short"])

    def test_the_text_begins_with_the_first_flag(self):
        # The word 0 1 ends the bits, but its 0 stands ahead of the flag.
        rule = ((1,), (((0, 1), 0),), 1)
        self.assertEqual(answers(rule, (0, 1, 1)), [()])
        self.assertEqual(answers(rule, (1, 0, 1, 1)), [(0,), ()])

    def test_against_the_plain_reading(self):
        bodies = plain.words(0, 6)
        for rule in plain.small_rules(checks=(1, 2, 3, 4)):
            told = plain.body_answers(rule, 6)
            flag = rule[0]
            for body in bodies:
                bits = flag + body + flag
                if plain.borders_of(rule, bits) == [0, len(flag) + len(body)]:
                    self.assertEqual(answers(rule, bits), [told.get(body, "bit")], repr((rule, body)))

    def test_each_answer_stands_alone(self):
        for rule in (A, B, TWO_ONES, NO_INSERTS):
            for bits in plain.words(9, 9):
                places = plain.borders_of(rule, bits)
                size = len(rule[0])
                parts = [bits[at:after + size] for at, after in zip(places, places[1:])]
                self.assertEqual(answers(rule, bits), [answers(rule, part)[0] for part in parts])


class TestLoose(unittest.TestCase):
    def test_no_border(self):
        self.assertEqual(loose(A, ()), (0, 0))
        self.assertEqual(loose(A, (0, 1, 1, 1)), (4, 0))

    def test_ahead_and_behind(self):
        self.assertEqual(loose(A, (0, 1, 1, 0)), (0, 0))
        self.assertEqual(loose(A, (1, 1, 0, 1, 1, 0)), (2, 0))
        self.assertEqual(loose(A, (0, 1, 1, 0, 1, 0, 1)), (0, 3))
        self.assertEqual(loose(A, (1, 0, 1, 1, 0, 0, 0, 0, 1, 1, 0, 1, 0)), (1, 2))
        self.assertEqual(loose(TWO_ONES, (0, 1, 1, 1, 0)), (1, 1))


class TestIsStream(unittest.TestCase):
    def test_streams(self):
        for payloads in ([], [()], [(1,)], [(0, 1), (), (1, 1, 1)]):
            for rule in (A, B, TWO_ONES):
                self.assertIs(is_stream(rule, stream(rule, payloads)), True)

    def test_no_streams(self):
        self.assertIs(is_stream(A, ()), False)
        self.assertIs(is_stream(A, (1, 0)), False)
        self.assertIs(is_stream(A, (1,) + stream(A, [()])), False)
        self.assertIs(is_stream(A, stream(A, [()]) + (0,)), False)
        self.assertIs(is_stream(A, (0, 1, 1, 0, 1, 0, 1, 1, 0)), False)
        self.assertIs(is_stream(A, (0, 1, 1, 0, 1, 1, 0)), False)
        self.assertIs(is_stream(TWO_ONES, (1, 1, 1)), False)

    def test_a_wrong_answer_among_right_ones(self):
        right = stream(A, [(1,)])
        wrong = (0, 1, 1, 0, 1, 1, 0)
        self.assertIs(is_stream(A, right + wrong[4:]), False)
        self.assertIs(is_stream(A, wrong + right[4:]), False)

    def test_exactly_the_streams_of_clean_rules(self):
        lists = list(plain.lists_by_signs(6))
        for rule in (A, B, TWO_ONES):
            sent = {plain.stream_of(rule, payloads) for payloads in lists}
            for bits in plain.words(0, 8):
                self.assertIs(is_stream(rule, bits), bits in sent, repr((rule, bits)))

    def test_rules_that_are_not_clean(self):
        # The stream of [(1,)] has three borders, of which the middle one is no flag's place.
        rule = ((1,), (), 1)
        self.assertEqual(answers(rule, stream(rule, [(1,)])), [(), ()])
        self.assertIs(is_stream(rule, stream(rule, [(1,)])), True)
        self.assertIs(is_stream(NO_INSERTS, stream(NO_INSERTS, [(1, 0)])), False)


class TestWrongArguments(unittest.TestCase):
    CALLS = (borders, answers, loose, is_stream)

    def test_wrong_rules(self):
        for call in self.CALLS:
            for value in NO_RULES:
                with self.assertRaises(InvalidRule):
                    call(value, ())

    def test_wrong_bits(self):
        for call in self.CALLS:
            for value in NO_WORDS:
                with self.assertRaises(InvalidBits):
                    call(A, value)


class TestLimits(unittest.TestCase):
    def test_great_streams(self):
        # In a text eleven ones stand in no row but the flag's, so the rule is clean.
        rule = ((0,) + (1,) * 14 + (0,), (((1,) * 10, 0), ((1,) * 16, 0)), 16)
        payloads = [plain.many_bits(400, seed) for seed in range(28)] + [(1,) * 400, ()]
        bits = stream(rule, payloads)
        self.assertEqual(answers(rule, bits), payloads)
        self.assertEqual(borders(rule, bits), plain.flag_places(rule, payloads))
        self.assertEqual(loose(rule, bits), (0, 0))
        self.assertIs(is_stream(rule, bits), True)

    def test_long_words_that_are_no_streams(self):
        bits = plain.many_bits(400, 3)
        rule = (bits[100:116], (((0,) * 8, 1),), 16)
        self.assertEqual(borders(rule, bits), plain.borders_of(rule, bits))
        self.assertEqual(loose(rule, bits)[0], plain.borders_of(rule, bits)[0])
        self.assertEqual(answers(((1,), (), 1), (1,) * 400), [()] * 399)
        self.assertEqual(answers(((1, 1), (), 1), (1,) * 400), ["overlap"] * 398)


if __name__ == "__main__":
    unittest.main()
