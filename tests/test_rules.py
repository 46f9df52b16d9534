"""Rules and streams: promises [4] to [8]."""

import unittest

import plain
from onlyflags.errors import InvalidBits, InvalidPayloads, InvalidRule
from onlyflags.rules import frame, is_rule, is_word, letter, stream, tails
from plain import A, B, C, NO_RULES, NO_WORDS


class TestKinds(unittest.TestCase):
    def test_words(self):
        for word in plain.words(0, 4) + [(0, 1) * 400]:
            self.assertIs(is_word(word), True)

    def test_no_words(self):
        for value in NO_WORDS:
            self.assertIs(is_word(value), False, repr(value))

    def test_rules(self):
        found = list(plain.small_rules()) + [A, B, C]
        found.append(((0, 1) * 300, (((0,) * 300, 1), ((0, 1), 0), ((1,) * 999, 1)), 10 ** 30))
        found.append(((1,), tuple((word, 1) for word in sorted(plain.words(1, 5))), 1))
        for rule in found:
            self.assertIs(is_rule(rule), True, repr(rule))

    def test_no_rules(self):
        for value in NO_RULES:
            self.assertIs(is_rule(value), False, repr(value))

    def test_order_of_inserts(self):
        self.assertIs(is_rule(((0,), (((0, 1), 1), ((1,), 0), ((1, 0), 0)), 1)), True)
        self.assertIs(is_rule(((0,), (((1,), 0), ((0, 1), 1)), 1)), False)
        self.assertIs(is_rule(((0,), (((1, 0), 0), ((1,), 1)), 1)), False)
        # The words alone have to ascend: the bit does not make one word another one.
        self.assertIs(is_rule(((0,), (((1,), 0), ((1,), 1)), 1)), False)

    def test_a_list_that_holds_itself(self):
        value = []
        value.append(value)
        self.assertIs(is_word(value), False)
        self.assertIs(is_word((value,)), False)
        self.assertIs(is_rule((value, value, value)), False)


class TestLetter(unittest.TestCase):
    def letter(self, check, payload):
        return letter(((0, 1), (((1,), 1),), check), payload)

    def test_widths(self):
        widths = [len(self.letter(check, ())) for check in range(1, 18)]
        self.assertEqual(widths, [0, 1, 2, 2, 3, 3, 3, 3, 4, 4, 4, 4, 4, 4, 4, 4, 5])

    def test_numbers(self):
        self.assertEqual(self.letter(1, (1, 0, 1)), (1, 0, 1))
        self.assertEqual(self.letter(2, (1, 0, 1)), (1, 0, 1, 0))
        self.assertEqual(self.letter(3, (1, 0, 1)), (1, 0, 1, 1, 0))
        self.assertEqual(self.letter(3, (1, 1, 1)), (1, 1, 1, 0, 0))
        self.assertEqual(self.letter(4, (1, 1, 1)), (1, 1, 1, 1, 1))
        self.assertEqual(self.letter(4, (1, 1, 1, 1)), (1, 1, 1, 1, 0, 0))
        self.assertEqual(self.letter(5, (0, 1)), (0, 1, 0, 0, 1))
        self.assertEqual(self.letter(5, (1,) * 9), (1,) * 9 + (1, 0, 0))
        self.assertEqual(self.letter(16, (1,) * 30), (1,) * 30 + (1, 1, 1, 0))
        self.assertEqual(self.letter(16, (1,) * 14 + (0,) * 3), (1,) * 14 + (0,) * 3 + (1, 1, 1, 0))

    def test_empty_payload(self):
        self.assertEqual([self.letter(check, ()) for check in (1, 2, 3, 5)], [(), (0,), (0, 0), (0, 0, 0)])

    def test_all_small(self):
        for check in range(1, 18):
            rule = ((1,), (), check)
            for payload in plain.words(0, 6):
                self.assertEqual(letter(rule, payload), plain.letter_of(rule, payload))


class TestFrame(unittest.TestCase):
    def test_no_inserts(self):
        self.assertEqual(frame(((0, 1), (), 1), (1, 1, 0)), (0, 1, 1, 1, 0))
        self.assertEqual(frame(((0, 1), (), 1), ()), (0, 1))

    def test_put_behind_the_flag(self):
        rule = ((1, 1), (((1,), 0),), 1)
        self.assertEqual(frame(rule, ()), (1, 1, 0))
        self.assertEqual(frame(rule, (1, 0)), (1, 1, 0, 1, 0, 0))

    def test_the_longest_word_counts(self):
        rule = ((0, 0), (((0, 1), 0), ((1,), 1), ((1, 1, 1), 0)), 1)
        self.assertEqual(frame(rule, (1,)), (0, 0, 1, 0))
        # Behind 01 with a 0 put in: the next 1 follows that 0, so 01 ends the text again.
        self.assertEqual(frame(rule, (1, 1)), (0, 0, 1, 0, 1, 0))
        both = ((1, 0), (((1,), 1), ((1, 1), 0)), 1)
        self.assertEqual(frame(both, (1, 1, 0)), (1, 0, 1, 1, 1, 0, 0))

    def test_what_is_put_in_counts_but_nothing_is_put_in_behind_it(self):
        rule = ((0,), (((1,), 1), ((1, 1, 1), 0)), 1)
        self.assertEqual(frame(rule, (1, 1)), (0, 1, 1, 1, 0))
        self.assertEqual(frame(((0, 1), (((1, 1), 1),), 1), (1, 0)), (0, 1, 1, 1, 0))
        self.assertEqual(frame(((0, 1), (((1, 1), 1),), 1), (1, 1)), (0, 1, 1, 1, 1, 1))

    def test_a_word_longer_than_the_flag(self):
        rule = ((1,), (((1, 0, 1), 0),), 1)
        self.assertEqual(frame(rule, (0, 1, 1)), (1, 0, 1, 0, 1, 0))
        self.assertEqual(frame(((1, 0), (((0, 1, 0, 1), 1),), 1), (1, 0, 1)), (1, 0, 1, 0, 1, 1))

    def test_put_in_behind_bits_of_the_check(self):
        rule = ((0, 1, 1, 0), (((1,), 0),), 4)
        self.assertEqual(frame(rule, (1, 1, 1)), (0, 1, 1, 0, 1, 0, 1, 0, 1, 0, 1, 0, 1, 0))
        self.assertEqual(frame(((0, 0), (((0, 0, 0), 1),), 2), ()), (0, 0, 0, 1))

    def test_against_the_plain_reading(self):
        payloads = plain.words(0, 5)
        for rule in plain.small_rules(checks=(1, 2, 3, 5)):
            for payload in payloads:
                self.assertEqual(frame(rule, payload), plain.frame_of(rule, payload))


class TestStream(unittest.TestCase):
    def test_flags_part_and_end(self):
        rule = ((0, 1), (), 1)
        self.assertEqual(stream(rule, []), (0, 1))
        self.assertEqual(stream(rule, [()]), (0, 1, 0, 1))
        self.assertEqual(stream(rule, [(1, 1), (), (0,)]), (0, 1, 1, 1, 0, 1, 0, 1, 0, 0, 1))

    def test_nothing_is_put_in_behind_the_last_flag(self):
        rule = ((1, 1), (((1,), 0),), 1)
        self.assertEqual(stream(rule, []), (1, 1))
        self.assertEqual(stream(rule, [()]), (1, 1, 0, 1, 1))
        self.assertEqual(stream(rule, [(), (1,)]), (1, 1, 0, 1, 1, 0, 1, 0, 1, 1))

    def test_what_was_sent_ahead_of_a_text_does_not_count(self):
        rule = ((1,), (((0, 1), 0),), 1)
        self.assertEqual(stream(rule, [(0,), (0,)]), (1, 0, 1, 0, 1))
        longer = ((1,), (((0, 1, 1), 0),), 1)
        self.assertEqual(stream(longer, [(0,), (1,)]), (1, 0, 1, 1, 1))

    def test_against_the_plain_reading(self):
        lists = list(plain.lists_by_signs(4))
        for rule in plain.small_rules(most_flag=2, checks=(1, 2, 4)):
            for payloads in lists:
                self.assertEqual(stream(rule, payloads), plain.stream_of(rule, payloads))


class TestTails(unittest.TestCase):
    def test_no_inserts(self):
        self.assertEqual(tails(((0, 1), (), 3)), [()])

    def test_a_tail_that_is_a_whole_word(self):
        self.assertEqual(tails(((0, 0), (((1,), 1),), 1)), [(), (1,)])
        self.assertEqual(tails(((0, 1), (((0, 0), 0),), 1)), [(), (0,), (0, 0)])

    def test_beginnings_that_no_text_has_as_its_tail(self):
        self.assertEqual(tails(((1, 0, 1), (((1, 0), 0),), 1)), [(), (1,)])
        self.assertEqual(tails(((0,), (((0,), 1), ((0, 0, 1), 0)), 1)), [()])
        self.assertEqual(tails(((0,), (((0,), 0), ((0, 0, 1), 0)), 1)), [(), (0,), (0, 0)])

    def test_the_flag_alone_has_a_tail(self):
        # A 1 is put in behind each 0 of the payload, so 00 stands in the flag alone.
        self.assertEqual(tails(((0, 0, 1), (((0,), 1), ((0, 0, 1, 1), 1)), 1)), [(), (0, 0, 1)])

    def test_no_text_has_the_empty_tail(self):
        self.assertEqual(tails(((1, 1), (((0,), 0), ((1, 1, 0), 1)), 1)), [(0,), (1,), (1, 1)])

    def test_a_whole_word_by_what_is_put_in(self):
        rule = ((0, 1), (((0, 1, 1), 0), ((1, 0), 0), ((1, 1), 0)), 1)
        self.assertEqual(tails(rule), [(0,), (0, 1), (1, 0)])

    def test_bits_of_the_check_do_not_count(self):
        for check in (1, 2, 3, 8):
            self.assertEqual(tails(((1,), (((1, 1), 0), ((1, 1, 1), 0)), check)), [(), (1,)])

    def test_against_the_plain_reading(self):
        payloads = plain.words(0, 7)
        for rule in plain.small_rules(checks=(1,)):
            texts = [plain.sending(rule, payload) for payload in payloads]
            self.assertEqual(tails(rule), sorted({plain.tail_of(rule, text) for text in texts}), repr(rule))


class TestWrongArguments(unittest.TestCase):
    def test_wrong_rules(self):
        for value in NO_RULES:
            for call in (letter, frame):
                with self.assertRaises(InvalidRule):
                    call(value, ())
            with self.assertRaises(InvalidRule):
                stream(value, [])
            with self.assertRaises(InvalidRule):
                tails(value)

    def test_wrong_payloads(self):
        for value in NO_WORDS:
            for call in (letter, frame):
                with self.assertRaises(InvalidBits):
                    call(A, value)
            with self.assertRaises(InvalidPayloads):
                stream(A, [(), value])

    def test_wrong_lists(self):
        for value in (None, 0, (), ((),), ((1,), (0,)), "", {}, {(): 1}, range(0), iter([()]), True):
            with self.assertRaises(InvalidPayloads):
                stream(A, value)


class TestLimits(unittest.TestCase):
    FLAG = plain.many_bits(16, 5)
    INSERTS = tuple(sorted((plain.many_bits(size, size), size % 2) for size in (3, 4, 5, 7, 9, 12, 15, 16)))

    def test_great_rules(self):
        for rule in ((self.FLAG, self.INSERTS, 16), ((1,) * 16, (((1,) * 15, 0), ((1,) * 16, 0)), 16)):
            self.assertIs(is_rule(rule), True)
            payloads = [plain.many_bits(400, seed) for seed in range(27)] + [(1,) * 400, (0,) * 400, ()]
            self.assertEqual(len(payloads), 30)
            self.assertEqual(letter(rule, payloads[0]), plain.letter_of(rule, payloads[0]))
            self.assertEqual(stream(rule, payloads), plain.stream_of(rule, payloads))

    def test_tails_of_long_words(self):
        ones = tuple(((1,) * size, 0) for size in (14, 15, 16))
        self.assertEqual(tails(((0,) * 16, ones, 1)), [(1,) * size for size in range(14)])
        rule = (self.FLAG, self.INSERTS, 16)
        texts = [plain.sending(rule, payload) for payload in plain.words(0, 8)]
        some = {plain.tail_of(rule, text) for text in texts}
        self.assertLessEqual(some, set(tails(rule)))


if __name__ == "__main__":
    unittest.main()
