"""Wrong bits, the nearest streams and the most strange answers: promises [21] and [22]."""

import unittest

import plain
import plain_damage
from onlyflags.clean import breaking
from onlyflags.damage import changed, distance, harm, nearest, silent, spread
from onlyflags.errors import InvalidKind, InvalidRule, NotClean
from onlyflags.receiving import is_stream
from onlyflags.rules import stream
from plain import A, B, C, NO_RULES
from plain_damage import apart
from test_clean import HDLC, SIX
from test_damage import GREAT, KINDS, NO_CLEAN, NO_KINDS, THREE, TWO_ONES, TWO_ZEROS, clean_rules

# Each bit is sent twice, and the check sees one wrong bit of a payload.
FOUR = ((0, 1, 0, 1), (((0,), 0), ((1,), 1)), 2)
FIVE_ZEROS = ((0, 0, 0, 0, 0), (((0,), 1), ((1, 1, 0, 0), 0)), 1)
NO_STRANGE = ((0, 1, 1, 0, 0), (((0,), 1), ((1,), 1)), 2)


class TestDistance(unittest.TestCase):
    def test_known_distances(self):
        self.assertEqual(distance(A), 2)
        self.assertEqual(distance(B), 1)
        self.assertEqual(distance(TWO_ONES), 1)
        self.assertEqual(distance((TWO_ONES[0], TWO_ONES[1], 2)), 2)
        self.assertEqual(distance(HDLC), 2)

    def test_one_if_there_is_a_silent_flip(self):
        for rule in clean_rules() + GREAT:
            self.assertEqual(distance(rule) == 1, silent(rule, "flip") is not None, repr(rule))

    def test_known_pairs(self):
        self.assertEqual(nearest(A), ([(0, 0, 0)], [(1,)]))
        self.assertEqual(nearest(B), ([(0, 0)], [(0, 1)]))
        self.assertEqual(nearest(TWO_ZEROS), ([(0,)], [(1, 1)]))
        self.assertEqual(nearest(((0, 1, 0), (((1,), 1),), 1)), ([(0, 0, 0)], [(), ()]))

    def test_against_the_plain_reading(self):
        checked = 0
        for rule in clean_rules()[::2] + GREAT + [FOUR, TWO_ONES, TWO_ZEROS, THREE]:
            most = 2 * len(rule[0]) + 4
            streams = plain_damage.streams_of(rule, most)
            expected = plain_damage.nearest_of(streams)
            told, (one, other) = distance(rule), nearest(rule)
            self.assert_apart(rule, told, one, other)
            if len(stream(rule, one)) <= most:
                self.assertEqual((told, (one, other)), expected, repr(rule))
                checked += 1
            elif expected is not None:
                self.assertLess(told, expected[0])
        self.assertGreater(checked, 20)

    def test_far_apart(self):
        self.assertEqual(distance(FOUR), 4)
        self.assertEqual(nearest(FOUR), ([(0,)], [(1,)]))
        self.assertEqual(distance((FOUR[0], FOUR[1], 3)), 4)
        self.assertEqual(distance((FOUR[0], FOUR[1], 1)), 2)
        streams = plain_damage.streams_of(FOUR, 14)
        self.assertEqual(plain_damage.nearest_of(streams), (4, ([(0,)], [(1,)])))

    def assert_apart(self, rule, told, one, other):
        sent, second = stream(rule, one), stream(rule, other)
        self.assertEqual(len(sent), len(second))
        self.assertEqual(apart(sent, second), told)
        self.assertLess(sent, second)
        self.assertNotEqual(one, other)

    def test_fewer_flips_are_seen(self):
        for rule in (A, (TWO_ONES[0], TWO_ONES[1], 2), HDLC, FOUR):
            self.assertGreater(distance(rule), 1)
            for payloads in plain.lists_by_signs(4):
                sent = stream(rule, payloads)
                for change in plain_damage.changes_of("flip", len(sent)):
                    self.assertFalse(is_stream(rule, changed(sent, change)))

    def test_errors(self):
        for value in NO_RULES:
            for call in (distance, nearest):
                with self.assertRaises(InvalidRule):
                    call(value)
        for rule in NO_CLEAN:
            for call in (distance, nearest):
                with self.assertRaises(NotClean) as caught:
                    call(rule)
                self.assertEqual(caught.exception.reason, breaking(rule))


class TestSpread(unittest.TestCase):
    def test_known_numbers(self):
        self.assertEqual([spread(A, kind) for kind in KINDS], [2, 2, 2])
        self.assertEqual([spread(TWO_ONES, kind) for kind in KINDS], [3, 2, 3])
        self.assertEqual([spread(((0, 0, 0), (((0,), 1),), 1), kind) for kind in KINDS], [4, 3, 3])
        self.assertEqual([spread(FIVE_ZEROS, kind) for kind in ("flip", "lose")], [6, 5])
        self.assertEqual(spread(NO_STRANGE, "lose"), 1)

    def test_against_lists(self):
        rules = clean_rules()[::6] + [TWO_ONES, TWO_ZEROS, THREE, *GREAT[:3], FIVE_ZEROS, NO_STRANGE]
        for rule in rules:
            lists = [[(), payload, ()] for payload in plain.words(0, 6)]
            lists += [[(), one, other] for one in plain.words(0, 2) for other in plain.words(0, 2)]
            for kind in KINDS:
                told = spread(rule, kind)
                most = 0
                for payloads in lists:
                    most = max(most, most_strange(rule, payloads, kind, most, told))
                    if most >= told:
                        break
                self.assertEqual(most, told, repr((rule, kind)))

    def test_no_list_has_more(self):
        for rule in (B, TWO_ZEROS, THREE, FIVE_ZEROS):
            for payloads in ([], [()], [(1,)], [(), (), ()], [plain.many_bits(12, 1), plain.many_bits(9, 4), ()]):
                for kind in KINDS:
                    told = spread(rule, kind)
                    for change in plain_damage.changes_of(kind, len(stream(rule, payloads))):
                        self.assertLessEqual(len(harm(rule, payloads, change)[1]), told)

    def test_great_rules(self):
        for rule in [*GREAT, SIX, HDLC]:
            for kind in KINDS:
                self.assertIn(spread(rule, kind), range(1, len(rule[0]) + 2))

    def test_errors(self):
        for value in NO_RULES:
            for kind in ("flip", "swap"):
                with self.assertRaises(InvalidRule):
                    spread(value, kind)
        for rule in (A, C):
            for kind in NO_KINDS:
                with self.assertRaises(InvalidKind):
                    spread(rule, kind)
        for rule in NO_CLEAN:
            with self.assertRaises(NotClean) as caught:
                spread(rule, "add")
            self.assertEqual(caught.exception.reason, breaking(rule))


def most_strange(rule, payloads, kind, most, enough):
    """The most strange answers that a change of a list's stream has, if more than most; no more are looked for."""
    sent = stream(rule, payloads)
    for change in plain_damage.changes_of(kind, len(sent)):
        if most < enough:
            # Each strange answer but the first two ends at a border of the changed stream, so most changes are none.
            borders = len(plain.borders_of(rule, plain_damage.changed_of(sent, change)))
            if borders - 1 - len(payloads) + 2 > most:
                most = max(most, len(plain_damage.harm_of(rule, payloads, change)[1]))
    return most


if __name__ == "__main__":
    unittest.main()
