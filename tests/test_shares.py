"""Shares: promises [14] and [15]."""

import unittest
from fractions import Fraction
from itertools import product
from math import gcd

import plain
from onlyflags.errors import InvalidFraction, InvalidLength, InvalidRule
from onlyflags.shares import is_share_table, most_put, ring, share, share_table
from plain import A, B, C, NO_RULES

NO_INSERTS = ((0, 1, 0), (), 1)
HALF = ((0, 1), (((1, 0), 0),), 1)
THIRD = ((0, 1, 1, 0), (((1, 1, 1), 0),), 2)
TWO_THIRDS = ((1, 1, 0), (((0, 0), 1), ((1, 1, 1), 0)), 1)
EVERY = ((0, 1), (((0,), 1), ((1,), 0)), 1)
# Only behind 10 comes a round of 1 with a 0 put in behind it each time.
LEAD = ((0, 0), (((1, 0, 1), 0),), 1)
# The rounds 10 and, behind 0, 1 have the same share.
LONGER = ((0, 0), (((0, 0), 1), ((1,), 0)), 1)
# Three ones stand in the flag only, so a bit is put in behind 11100 only once, if the payload begins with 0.
ONCE = ((1, 1, 1), (((1, 1), 0), ((1, 1, 1, 0, 0), 1)), 1)
HDLC = ((0, 1, 1, 1, 1, 1, 1, 0), (((1, 1, 1, 1, 1), 0),), 3)

# At the limits: flags and words of six bits, three words, the check 3.
GREAT = [
    ((0, 1, 1, 1, 1, 0), (((0, 0, 0, 0, 0, 0), 1), ((1, 1, 1), 0), ((1, 1, 1, 1, 0, 1), 1)), 3),
    ((1, 0, 1, 1, 0, 1), (((0, 0, 0, 0, 1, 0), 1), ((1, 0, 1, 1, 0), 0), ((1, 1, 1, 1, 1), 0)), 3),
    ((0, 0, 0, 0, 0, 1), (((0, 0, 1, 0, 1, 1), 1), ((0, 1, 0, 0, 1, 1), 0), ((1, 0, 0, 1, 0, 1), 1)), 3),
]

NO_FRACTIONS = [
    (2, 2), (0, 2), (-1, 1), (1, 0), (0, 0), [1, 1], (True, 1), (1, True), (False, 1), (4, 6), (1, -1), (-1, -1),
    (0, -1), (1,), (), (1, 1, 1), (1.0, 1), (1, 1.0), ("1", 1), (1, None), ((1,), (1,)), None, 0, 1, 0.5, "1/2", "12",
    Fraction(1, 2), {1: 1}, {1, 2}, range(1, 3), plain.IntLike(), (plain.IntLike(), 1), (1, plain.IntLike()), tuple,
]

NO_LENGTHS = [-1, -40, True, False, None, 1.0, 0.0, "1", "", (), (1,), [3], {}, plain.IntLike(), int, object()]


def small_rules():
    return list(plain.small_rules(2, (1, 2))) + [A, B, C, NO_INSERTS, THIRD, TWO_THIRDS, EVERY, LEAD, LONGER, ONCE]


class TestShare(unittest.TestCase):
    def test_known_shares(self):
        self.assertEqual(share(NO_INSERTS), (0, 1))
        self.assertEqual(share(A), (1, 1))
        self.assertEqual(share(B), (1, 2))
        self.assertEqual(share(EVERY), (1, 1))
        self.assertEqual(share(HDLC), (1, 5))
        self.assertEqual(share(TWO_THIRDS), (2, 3))
        self.assertEqual(share(((0, 1), (((1, 1, 1), 0),), 1)), (1, 3))
        self.assertEqual(share(LEAD), (1, 1))
        # A bit that is put in counts for the next word: 11 has a 1 behind it, and so the next 1 has one, too.
        self.assertEqual(share(((0, 1), (((1, 1), 1),), 1)), (1, 1))

    def test_what_is_put_in_once_does_not_count(self):
        self.assertEqual(share(ONCE), (1, 2))
        self.assertEqual(most_put(ONCE, 1), (1, (0,)))
        self.assertEqual(most_put(ONCE, 2), (2, (0, 1)))
        self.assertEqual(most_put(ONCE, 3), (2, (0, 1, 0)))
        self.assertEqual(ring(ONCE), plain.ring_of(ONCE))

    def test_the_flag_and_the_check_do_not_count(self):
        # A 1 is put in behind the flag 00, so that 00 comes behind two 0 more.
        self.assertEqual(most_put(((0, 0), (((0, 0), 1),), 1), 1), (0, (0,)))
        self.assertEqual(most_put(((0, 0), (((0, 0), 1),), 3), 1), (0, (0,)))
        self.assertEqual(share(((0, 0), (((0, 0), 1),), 1)), (1, 2))
        for check in (1, 2, 3):
            self.assertEqual(share((B[0], B[1], check)), (1, 2))

    def test_against_the_plain_reading(self):
        found = set()
        for rule in small_rules():
            self.assertEqual(share(rule), plain_share(rule), repr(rule))
            found.add(share(rule))
        self.assertTrue({(0, 1), (1, 3), (1, 2), (1, 1)} <= found, found)

    def test_no_payload_has_more(self):
        for rule in GREAT:
            top, bottom = share(rule)
            self.assertEqual(gcd(top, bottom), 1)
            numbers = [number for _, number in share_table(rule)]
            for length in (0, 1, 7, 40):
                puts, _ = most_put(rule, length)
                self.assertLessEqual(bottom * puts - top * length, max(numbers))
            lead, turn = ring(rule)
            gained = plain.puts_of(rule, lead + turn) - plain.puts_of(rule, lead)
            self.assertEqual(gained * bottom, top * len(turn))


def plain_share(rule):
    found = plain.share_of(rule)
    return found.numerator, found.denominator


class TestRing(unittest.TestCase):
    def test_known_rings(self):
        self.assertEqual(ring(NO_INSERTS), ((), (0,)))
        self.assertEqual(ring(A), ((), (1,)))
        self.assertEqual(ring(B), ((), (0, 1)))
        self.assertEqual(ring(EVERY), ((), (1,)))
        self.assertEqual(ring(THIRD), ((), (1, 1, 1)))

    def test_the_lead_is_not_empty(self):
        self.assertEqual(ring(LEAD), ((1, 0), (1,)))
        # The empty lead leads to 0, and no round of 0 and 1 leads there again; 1 leads to 1, and so on.
        self.assertEqual(ring(((0, 0), (((1, 1, 1), 1),), 1)), ((1, 1, 1), (1,)))
        self.assertEqual(ring(((0, 0), (((1, 0, 0), 1),), 1)), ((1,), (0, 0)))

    def test_the_round_is_not_empty(self):
        for rule in small_rules():
            self.assertGreaterEqual(len(ring(rule)[1]), 1)

    def test_the_least_lead_comes_first(self):
        self.assertEqual(ring(LONGER), ((), (1, 0)))
        self.assertEqual(plain.tail_behind(LONGER, (0, 1)), plain.tail_behind(LONGER, (0,)))
        self.assertEqual(plain.puts_of(LONGER, (0, 1)) - plain.puts_of(LONGER, (0,)), 1)
        self.assertEqual(share(LONGER), (1, 1))

    def test_the_least_round_for_a_lead(self):
        self.assertEqual(ring(((0, 0), (((1, 0, 1), 1), ((1, 1), 0)), 1)), ((1, 0), (1, 1)))
        # Each bit has one behind it: 0 and 1 both are such rounds.
        self.assertEqual(ring(((1, 0), (((0,), 0), ((1,), 0)), 1)), ((), (0,)))
        self.assertEqual(plain.tail_behind(((1, 0), (((0,), 0), ((1,), 0)), 1), (1,)), (0,))

    def test_against_the_plain_reading(self):
        for rule in small_rules():
            self.assertEqual(ring(rule), plain.ring_of(rule), repr(rule))


class TestMostPut(unittest.TestCase):
    def test_known_numbers(self):
        self.assertEqual(most_put(B, 0), (0, ()))
        self.assertEqual(most_put(B, 1), (1, (0,)))
        self.assertEqual(most_put(B, 3), (2, (0, 1, 0)))
        self.assertEqual(most_put(A, 4), (4, (1, 1, 1, 1)))
        self.assertEqual(most_put(NO_INSERTS, 5), (0, (0, 0, 0, 0, 0)))
        self.assertEqual(most_put(THIRD, 5), (1, (0, 0, 1, 1, 1)))

    def test_the_first_payload_that_has_it(self):
        for rule in small_rules():
            for length in range(6):
                puts = {payload: plain.puts_of(rule, payload) for payload in plain.words(length, length)}
                most = max(puts.values())
                first = min(payload for payload in puts if puts[payload] == most)
                self.assertEqual(most_put(rule, length), (most, first), repr((rule, length)))

    def test_long_payloads(self):
        self.assertEqual(most_put(A, 200), (200, (1,) * 200))
        self.assertEqual(most_put(B, 200), (100, (0,) + (0, 1) * 99 + (0,)))
        self.assertEqual(most_put(NO_INSERTS, 200), (0, (0,) * 200))
        for rule in GREAT:
            puts, payload = most_put(rule, 200)
            self.assertEqual(len(payload), 200)
            self.assertEqual(plain.puts_of(rule, payload), puts)
            self.assertLessEqual(most_put(rule, 199)[0], puts)

    def test_wrong_lengths(self):
        for value in NO_LENGTHS:
            with self.assertRaises(InvalidLength):
                most_put(B, value)


class TestShareTable(unittest.TestCase):
    def test_known_tables(self):
        self.assertEqual(share_table(B), [((), 1), ((1,), 0)])
        self.assertEqual(share_table(NO_INSERTS), [((), 0)])
        self.assertEqual(share_table(A), [((), 0)])

    def test_greatest_numbers(self):
        for rule in small_rules():
            size = len(plain.tails_of(rule))
            self.assertLessEqual(size, 7)
            self.assertEqual(share_table(rule), plain.numbers_of(rule, plain_share(rule), size), repr(rule))

    def test_it_is_a_share_table(self):
        for rule in small_rules() + GREAT + [HDLC]:
            table = share_table(rule)
            self.assertIs(is_share_table(rule, share(rule), table), True)
            self.assertTrue(plain.is_share_list(rule, share(rule), table))
            self.assertEqual([tail for tail, _ in table], sorted(plain.tails_of(rule)))
            self.assertEqual(dict(table)[plain.tail_behind(rule, ())], 0)


class TestIsShareTable(unittest.TestCase):
    def test_another_order(self):
        for rule in small_rules():
            table = share_table(rule)
            self.assertIs(is_share_table(rule, share(rule), table[::-1]), True)

    def test_a_tail_twice(self):
        for rule in (A, B, THIRD):
            table = share_table(rule)
            for entry in table:
                self.assertIs(is_share_table(rule, share(rule), table + [entry]), False)
                self.assertIs(is_share_table(rule, share(rule), [(entry[0], entry[1] + 1)] + table), False)

    def test_a_tail_is_left_out(self):
        for rule in (A, B, THIRD, TWO_THIRDS, HDLC):
            table = share_table(rule)
            for at in range(len(table)):
                self.assertIs(is_share_table(rule, share(rule), table[:at] + table[at + 1:]), False)

    def test_a_number_is_too_small(self):
        for rule in (A, B, THIRD, TWO_THIRDS, HDLC):
            table = share_table(rule)
            for at, (tail, number) in enumerate(table):
                less = table[:at] + [(tail, number - 1)] + table[at + 1:]
                self.assertIs(is_share_table(rule, share(rule), less), False, repr((rule, less)))

    def test_all_numbers_may_be_greater(self):
        for rule in (A, B, THIRD, HDLC):
            more = [(tail, number + 7) for tail, number in share_table(rule)]
            self.assertIs(is_share_table(rule, share(rule), more), True)
            less = [(tail, number - 1) for tail, number in share_table(rule)]
            self.assertIs(is_share_table(rule, share(rule), less), False)

    def test_fractions_above_and_below(self):
        self.assertIs(is_share_table(B, (1, 2), [((), 1), ((1,), 0)]), True)
        self.assertIs(is_share_table(B, (1, 3), [((), 1), ((1,), 0)]), False)
        self.assertIs(is_share_table(B, (1, 3), [((), 2), ((1,), 0)]), False)
        self.assertIs(is_share_table(B, (1, 1), [((), 1), ((1,), 0)]), True)
        self.assertIs(is_share_table(B, (1, 1), [((), 0), ((1,), 0)]), True)
        self.assertIs(is_share_table(B, (2, 3), [((), 1), ((1,), 0)]), True)
        self.assertIs(is_share_table(B, (2, 1), [((), -1), ((1,), 0)]), True)
        self.assertIs(is_share_table(B, (0, 1), [((), 1), ((1,), 0)]), False)
        self.assertIs(is_share_table(NO_INSERTS, (0, 1), [((), 0)]), True)
        self.assertIs(is_share_table(NO_INSERTS, (5, 7), [((), 3)]), True)

    def test_no_table_is_below_the_share(self):
        for rule in (A, B, THIRD, TWO_THIRDS):
            own = Fraction(*share(rule))
            leads = sorted(plain.tails_of(rule))
            for fraction in ((0, 1), (1, 6), (1, 4), (1, 3), (2, 5), (1, 2), (3, 5), (1, 1), (3, 2)):
                found = False
                for numbers in product(range(0, 4), repeat=len(leads)):
                    found = found or is_share_table(rule, fraction, list(zip(leads, numbers)))
                if Fraction(*fraction) < own:
                    self.assertIs(found, False)
                elif Fraction(*fraction) == own:
                    self.assertIs(found, True)

    def test_all_small_lists(self):
        rules = [A, B, HALF, ((1, 1), (((1,), 0), ((1, 0), 1)), 1), EVERY]
        for rule in rules:
            begun = sorted(plain.beginnings(rule))
            entries = [(tail, number) for tail in begun for number in range(-2, 4)]
            for fraction in ((0, 1), (1, 2), (1, 1), (2, 1)):
                for size in range(3):
                    for value in product(entries, repeat=size):
                        expected = plain.is_share_list(rule, fraction, value)
                        told = is_share_table(rule, fraction, list(value))
                        self.assertIs(told, expected, repr((rule, fraction, value)))

    def test_tails_that_no_text_leads_to(self):
        # A whole word is a tail as in [12], too, though a bit is always put in behind it.
        self.assertIs(is_share_table(B, (1, 2), [((), 1), ((1,), 0), ((1, 0), 1)]), True)
        self.assertIs(is_share_table(B, (1, 2), [((), 1), ((1,), 0), ((1, 0), -9)]), True)
        self.assertIs(is_share_table(B, (1, 2), [((), 1), ((1,), 0), ((1, 0), 9)]), False)
        for number in range(-3, 4):
            value = [((1, 0), number)] + share_table(B)
            self.assertIs(is_share_table(B, (1, 2), value), plain.is_share_list(B, (1, 2), value))

    def test_any_value(self):
        table = share_table(B)
        wrong = [
            None, 0, True, "", (), tuple(table), {}, dict(table), set(table), object(), len, iter(table),
            plain.IntLike(), [[]], [()], [table], [*table, ()], [*table, []], [*table, None], [*table, ((0,),)],
            [*table, ((1, 0), 0, 0)], [*table, [(1, 0), 0]], [*table, ([1, 0], 0)], [*table, ((1, 0), True)],
            [*table, ((1, 0), 1.0)], [*table, ((1, 0), None)], [*table, ((1, 0), plain.IntLike())],
            [*table, ((True, 0), 0)], [*table, ((0,), 0)], [*table, ((1, 1), 0)], [*table, ((1, 0, 0), 0)],
            [*table, (None, 0)], [*table, ("10", 0)], [*table, ({}, 0)], [*table, (([],), 0)], [*table, "ab"],
            [((), 1), ((1,), False)], [((), True), ((1,), 0)], [((), 1), ((True,), 0)], [((), 1.0), ((1,), 0)],
            [((), 1), ((1.0,), 0)], [((), 1), ((1,), -1)],
        ]
        for value in wrong:
            self.assertIs(is_share_table(B, (1, 2), value), False, repr(value))
        self.assertIs(is_share_table(B, (1, 2), table), True)

    def test_wrong_fractions(self):
        for value in NO_FRACTIONS:
            for table in (share_table(B), [], None):
                with self.assertRaises(InvalidFraction):
                    is_share_table(B, value, table)


class TestWrongRules(unittest.TestCase):
    def test_wrong_rules(self):
        for value in NO_RULES:
            for call in (share, ring, share_table):
                with self.assertRaises(InvalidRule):
                    call(value)
            for length in (0, -1, None):
                with self.assertRaises(InvalidRule):
                    most_put(value, length)
            for fraction in ((1, 2), (2, 2), None):
                with self.assertRaises(InvalidRule):
                    is_share_table(value, fraction, [])


if __name__ == "__main__":
    unittest.main()
