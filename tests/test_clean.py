"""Clean rules: promises [11] to [13]."""

import unittest
from itertools import combinations

import plain
from onlyflags.clean import breaking, clean_table, is_clean, is_clean_table
from onlyflags.errors import InvalidRule, NotClean
from onlyflags.receiving import answers, borders
from onlyflags.rules import stream
from plain import A, B, C, NO_RULES

TWO_ONES = ((1, 1), (((1,), 0),), 1)
HDLC = ((0, 1, 1, 1, 1, 1, 1, 0), (((1, 1, 1, 1, 1), 0),), 3)
SIX = ((0, 1, 1, 1, 1, 0), (((0, 1, 1, 1), 0), ((1, 1, 1), 0), ((1, 1, 1, 1, 1, 1), 1)), 3)

# At the limits: flags and words of six bits, three words, the check 3.
GREAT = [
    (flag, tuple(sorted(inserts)), 3)
    for flag in ((0, 1, 1, 1, 1, 0), (1, 1, 1, 1, 1, 1), (1, 0, 1, 1, 0, 1), (0, 0, 0, 0, 0, 1))
    for inserts in (
        (((1, 1, 1), 0), ((1, 1, 1, 1, 0, 1), 1), ((0, 0, 0, 0, 0, 0), 1)),
        (((1, 0, 1, 1, 0), 0), ((0, 0, 0, 0, 1, 0), 1), ((1, 1, 1, 1, 1), 0)),
        (((0, 0, 0, 0), 1), ((0, 0, 0), 1), ((1, 1, 1, 1), 0)),
    )
]


class TestKnownRules(unittest.TestCase):
    def test_clean(self):
        for rule in (A, B, TWO_ONES, HDLC, SIX):
            self.assertIs(is_clean(rule), True, repr(rule))
            self.assertIsNone(breaking(rule))

    def test_a_flag_of_one_bit_is_never_clean(self):
        # A payload may hold the flag itself, and the check of the empty payload a 0.
        self.assertEqual(breaking(((1,), (), 1)), [(1,)])
        self.assertEqual(breaking(((0,), (), 1)), [(0,)])
        self.assertEqual(breaking(((1,), (((1,), 0),), 2)), [(1,)])
        self.assertEqual(breaking(((0,), (((0,), 1),), 2)), [()])
        for flag in ((0,), (1,)):
            for word in plain.words(1, 3):
                for bit in (0, 1):
                    self.assertIs(is_clean((flag, ((word, bit),), 1)), False)

    def test_a_bit_put_in_behind_the_flag_breaks(self):
        self.assertEqual(breaking(((1, 1), (((1,), 1),), 1)), [()])
        # 010 with a 1 put in behind it: its last 0 and that 1 begin the flag, which the next one's 0 ends.
        self.assertEqual(breaking(((0, 1, 0), (((1, 0), 1),), 1)), [()])

    def test_a_bit_put_in_behind_the_payload_breaks(self):
        self.assertEqual(breaking(((0, 1), (((0,), 1),), 1)), [(0,)])
        self.assertEqual(breaking(((0, 1, 1), (((0, 1), 1),), 1)), [(0, 1)])

    def test_the_flag_behind_the_last_bit_breaks(self):
        # 1010 straight behind 1010 stands between them, too.
        self.assertEqual(breaking(C), [()])
        self.assertEqual(breaking(((1, 0, 1), (), 1)), [(0,)])
        self.assertEqual(breaking(((1, 1), (((1, 1), 0),), 1)), [(1,)])

    def test_no_inserts(self):
        self.assertEqual(breaking(((0, 1, 1), (), 1)), [(0, 1, 1)])
        self.assertEqual(breaking(((0, 1), (), 1)), [(0, 1)])
        self.assertEqual(breaking(((1, 1), (), 1)), [()])

    def test_bits_of_the_check_break(self):
        # The payload 01 and its check 1 are the flag.
        self.assertEqual(breaking(((0, 1, 1), (((0, 0), 1),), 2)), [(0, 1)])
        # The 1 that is put in behind the flag and the empty payload's check 00 are the flag.
        self.assertEqual(breaking(((1, 0, 0), (((0, 0), 1),), 3)), [()])

    def test_great_rules(self):
        for rule in GREAT:
            least = plain_least(rule, 6)
            if least is not None:
                self.assertEqual(breaking(rule), least, repr(rule))
            elif not is_clean(rule):
                self.assertTrue(plain.breaks(rule, breaking(rule)))
            else:
                self.assertTrue(plain.is_table(rule, clean_table(rule)))
        self.assertTrue({True, False} <= {is_clean(rule) for rule in GREAT})


def plain_least(rule, most):
    """The least list of at most so many signs that breaks a rule, None if there is none."""
    for payloads in plain.lists_by_signs(most):
        if plain.breaks(rule, payloads):
            return payloads
    return None


class TestAgainstThePlainReading(unittest.TestCase):
    def test_breaking(self):
        clean = 0
        for rule in plain.small_rules():
            least, found = plain_least(rule, 4), breaking(rule)
            self.assertIs(is_clean(rule), found is None)
            if least is not None:
                self.assertEqual(found, least, repr(rule))
            elif found is not None:
                self.assertGreater(sum(len(payload) + 1 for payload in found), 4)
                self.assertEqual(found, plain_least(rule, 9), repr(rule))
            else:
                clean += 1
        self.assertGreater(clean, 20)

    def test_clean_tables(self):
        for rule in list(plain.small_rules()) + [A, SIX]:
            if is_clean(rule):
                table = clean_table(rule)
                self.assertEqual(table, plain.stands_of(rule, 8), repr(rule))
                self.assertTrue(plain.is_table(rule, table))
                self.assertIs(is_clean_table(rule, table), True)

    def test_receiving_from_anywhere(self):
        payloads = [(1, 1), (), (0, 1, 1, 1), (1,), (0, 0)]
        for rule in list(plain.small_rules()) + [A, B, TWO_ONES, HDLC]:
            if is_clean(rule):
                bits = stream(rule, payloads)
                self.assertEqual(borders(rule, bits), plain.flag_places(rule, payloads))
                for start in range(len(bits)):
                    left = [at for at in plain.flag_places(rule, payloads) if at >= start]
                    expected = payloads[len(payloads) - len(left) + 1:] if left else []
                    self.assertEqual(answers(rule, bits[start:]), expected)


class TestCleanTable(unittest.TestCase):
    def test_one_stand(self):
        self.assertEqual(clean_table(TWO_ONES), [((), (), 0)])

    def test_stands_of_a_check(self):
        self.assertEqual(clean_table(A), [((), (0,), 0), ((), (0,), 1)])
        three = clean_table(((0, 1, 1, 0), (((1,), 0),), 3))
        self.assertEqual(three, [((), (0,), 0), ((), (0,), 1), ((), (0,), 2)])

    def test_ascending(self):
        for rule in (A, B, TWO_ONES, HDLC, SIX):
            table = clean_table(rule)
            self.assertEqual(table, sorted(set(table)))

    def test_rules_that_are_not_clean(self):
        for rule in list(plain.small_rules()) + [C]:
            if not is_clean(rule):
                with self.assertRaises(NotClean) as caught:
                    clean_table(rule)
                self.assertEqual(caught.exception.reason, breaking(rule))


class TestIsCleanTable(unittest.TestCase):
    def test_another_order_and_twice(self):
        for rule in (A, B, SIX):
            table = clean_table(rule)
            self.assertIs(is_clean_table(rule, table[::-1]), True)
            self.assertIs(is_clean_table(rule, table + table), True)
            self.assertIs(is_clean_table(rule, table[1:] + table[:1] + table[:1]), True)

    def test_a_stand_is_missing(self):
        for rule in (A, B, TWO_ONES, HDLC, SIX):
            table = clean_table(rule)
            for at in range(len(table)):
                self.assertIs(is_clean_table(rule, table[:at] + table[at + 1:]), False)

    def test_all_lists_of_stands(self):
        rules = [
            B, TWO_ONES, ((0, 1, 1), (((1,), 0),), 2), ((0, 1), (((0,), 0),), 3), ((1, 1), (((1,), 1),), 1),
            ((0, 1, 1), (((0, 1), 1),), 1), ((1, 0, 0), (((0,), 1),), 2),
        ]
        for rule in rules:
            stands = plain.all_stands(rule)
            self.assertLessEqual(len(stands), 12)
            for size in range(len(stands) + 1):
                for value in combinations(stands, size):
                    expected = plain.is_table(rule, list(value))
                    self.assertIs(is_clean_table(rule, list(value)), expected, repr((rule, value)))

    def test_stands_that_no_text_leads_to(self):
        # Behind them all holds, too, if only they do not break and lead to stands that are found.
        table = clean_table(B)
        self.assertIs(is_clean_table(B, table + [((1, 0), (), 0)]), True)
        self.assertIs(is_clean_table(B, table + [((), (1,), 0)]), False)
        for rule in (A, B, SIX):
            table = clean_table(rule)
            for stand in plain.all_stands(rule):
                value = [stand] + table
                self.assertIs(is_clean_table(rule, value), plain.is_table(rule, value), repr((rule, stand)))

    def test_rules_that_are_not_clean_have_none(self):
        for rule in (C, ((1,), (), 1), ((0, 1), (), 2)):
            self.assertIs(is_clean_table(rule, []), False)
            self.assertIs(is_clean_table(rule, plain.all_stands(rule)), False)
        for rule in list(plain.small_rules()) + [C]:
            if not is_clean(rule):
                self.assertIs(is_clean_table(rule, plain.stands_of(rule, 6)), False, repr(rule))

    def test_a_part_is_shorter_than_the_flag(self):
        self.assertIs(is_clean_table(TWO_ONES, [((), (), 0)]), True)
        self.assertIs(is_clean_table(TWO_ONES, [((), (), 0), ((), (1, 1), 0)]), False)

    def test_any_value(self):
        table = clean_table(B)
        wrong = [
            None, 0, True, "", (), tuple(table), {}, set(table), object(), len, iter(table), dict.fromkeys(table),
            plain.IntLike(),
        ]
        for value in wrong:
            self.assertIs(is_clean_table(B, value), False, repr(value))

    def test_any_part(self):
        table = clean_table(B)
        wrong = plain.NO_WORDS + plain.NO_RULES + [
            (), ((), ()), ((), (), 0, 0), [(), (), 0], ([], (), 0), ((), [], 0), ((), (), 1), ((), (), -1),
            ((), (), False), ((), (), 0.0), ((), (), None), ((), (), ()), ((), (), plain.IntLike()),
            ((True,), (1,), 0), ((1,), (True,), 0), ((1.0,), (1,), 0), ((1,), (1.0,), 0), ((0,), (), 0),
            ((1, 1), (), 0), ((1, 0, 0), (), 0), ((), (0,), 0), ((), (1, 1), 0), ((), (1, 0, 1), 0), (None, (), 0),
            ((), None, 0), ("", (), 0), ((), "", 0), (({},), (), 0), ((), ([],), 0), ((2,), (), 0), ((), (2,), 0),
        ]
        for value in wrong:
            self.assertIs(is_clean_table(B, table + [value]), False, repr(value))
            self.assertIs(is_clean_table(B, [value] + table), False, repr(value))

    def test_true_and_false_are_no_integers(self):
        table = clean_table(A)
        self.assertEqual(table, [((), (0,), 0), ((), (0,), 1)])
        self.assertIs(is_clean_table(A, [((), (0,), 0), ((), (0,), True)]), False)
        self.assertIs(is_clean_table(A, [((), (0,), False), ((), (0,), 1)]), False)
        self.assertIs(is_clean_table(A, [((), (False,), 0), ((), (0,), 1)]), False)
        self.assertIs(is_clean_table(A, table + [((), (0,), 2)]), False)


class TestWrongRules(unittest.TestCase):
    def test_wrong_rules(self):
        for value in NO_RULES:
            for call in (is_clean, breaking, clean_table):
                with self.assertRaises(InvalidRule):
                    call(value)
            for table in ([], None, [((), (), 0)]):
                with self.assertRaises(InvalidRule):
                    is_clean_table(value, table)


if __name__ == "__main__":
    unittest.main()
