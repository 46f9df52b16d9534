"""Wrong bits, one change at a time: promises [18] to [20]."""

import unittest

import plain
import plain_damage
import test_shares
from onlyflags.clean import breaking, is_clean
from onlyflags.damage import changed, harm, silent
from onlyflags.errors import InvalidBits, InvalidChange, InvalidKind, InvalidPayloads, InvalidRule, NotClean
from onlyflags.receiving import answers, borders, is_stream
from onlyflags.rules import stream
from plain import A, B, C, NO_RULES, NO_WORDS
from test_clean import SIX
from test_lists import NO_PAYLOADS

KINDS = ("flip", "lose", "add")

TWO_ONES = ((1, 1), (((1,), 0),), 1)
TWO_ZEROS = ((0, 0), (((0,), 1),), 1)
THREE = ((0, 1, 0), (((0, 1), 1),), 1)

# At the limits: flags of five bits, two words of four bits, the check 3; all of them clean.
GREAT = [
    ((0, 0, 1, 1, 0), (((1, 0, 1, 1), 0), ((1, 1), 1)), 3),
    ((1, 0, 1, 0, 0), (((0,), 1), ((0, 1, 1, 0), 0)), 3),
    ((0, 0, 0, 1, 1), (((0, 0, 0, 1), 0), ((0, 1, 0), 1)), 3),
    ((0, 1, 0, 1, 1), (((0, 1, 0, 1), 0), ((1, 1, 1, 0), 1)), 3),
    ((1, 1, 0, 1, 0), (((1,), 1), ((1, 1, 0, 0), 1)), 3),
]

NO_CLEAN = [C, ((1,), (), 1), ((0, 1), (), 2), ((1, 1), (((1, 1), 0),), 1), ((0, 0, 1), (((0, 0, 1), 0),), 3)]
NO_CLEAN += [rule for rule in test_shares.GREAT if not is_clean(rule)]

NO_CHANGES = [
    None, 0, 1, True, "", "flip", "flip 0", (), ("flip",), ("lose",), ("add",), ("flip", 0, 0), ("lose", 0, 1),
    ("flip", 0, None), ("add", 0), ("add", 0, 1, 1), ("flip", -1), ("lose", -1), ("add", -1, 0), ("flip", True),
    ("flip", False), ("lose", True), ("lose", False), ("add", True, 0), ("add", False, 0), ("flip", 0.0),
    ("flip", "0"), ("flip", None), ("flip", (0,)), ("add", 0, 2), ("add", 0, -1), ("add", 0, True),
    ("add", 0, False), ("add", 0, None), ("add", 0, 0.0), ("add", 0, (0,)), ("add", 0, "0"), ("Flip", 0),
    ("swap", 0), ("swap", 0, 0), ("", 0), (None, 0), (0, 0), (True, 0), (b"flip", 0), (("flip",), 0), ("flip ", 0),
    ["flip", 0], ["add", 0, 0], {"flip": 0}, {"flip", 0}, (0, "flip"), (["flip"], 0), ({}, 0), (0, 1), ((0,), 1),
    (plain.IntLike(), 0), ("flip", plain.IntLike()), ("add", 0, plain.IntLike()), (str, 0), object(), tuple,
]

NO_KINDS = [
    None, 0, True, "", "Flip", "flip ", "swap", "flips", "fl", "add lose", b"flip", ("flip",), ["flip"], {"flip": 1},
    ("flip", 0), plain.IntLike(), str, object(),
]


def clean_rules():
    return [rule for rule in plain.small_rules() if is_clean(rule)] + [A, B, SIX]


class TestChanged(unittest.TestCase):
    def test_flip(self):
        self.assertEqual(changed((0, 1, 1), ("flip", 0)), (1, 1, 1))
        self.assertEqual(changed((0, 1, 1), ("flip", 2)), (0, 1, 0))
        self.assertEqual(changed((1,), ("flip", 0)), (0,))

    def test_lose(self):
        self.assertEqual(changed((0, 1, 1), ("lose", 0)), (1, 1))
        self.assertEqual(changed((0, 1, 0), ("lose", 2)), (0, 1))
        self.assertEqual(changed((1,), ("lose", 0)), ())

    def test_add(self):
        self.assertEqual(changed((0, 1), ("add", 0, 1)), (1, 0, 1))
        self.assertEqual(changed((0, 1), ("add", 1, 0)), (0, 0, 1))
        self.assertEqual(changed((0, 1), ("add", 2, 1)), (0, 1, 1))

    def test_the_empty_word(self):
        self.assertEqual(changed((), ("add", 0, 0)), (0,))
        self.assertEqual(changed((), ("add", 0, 1)), (1,))
        for change in (("flip", 0), ("lose", 0), ("add", 1, 0), ("flip", -1), ("lose", -1), ("add", -1, 0)):
            with self.assertRaises(InvalidChange):
                changed((), change)

    def test_all_changes_of_small_words(self):
        for bits in plain.words(0, 5):
            for kind in KINDS:
                for change in plain_damage.changes_of(kind, len(bits)):
                    self.assertEqual(changed(bits, change), plain_damage.changed_of(bits, change))

    def test_the_index_behind_the_last_one(self):
        for bits in plain.words(0, 4):
            size = len(bits)
            for change in (("flip", size), ("lose", size), ("add", size + 1, 0), ("add", size + 1, 1)):
                with self.assertRaises(InvalidChange):
                    changed(bits, change)
            for change in (("flip", size + 9), ("lose", 10 ** 6), ("add", 10 ** 6, 0)):
                with self.assertRaises(InvalidChange):
                    changed(bits, change)

    def test_words_of_400_bits(self):
        bits = plain.many_bits(400, 3)
        for at in (0, 1, 200, 399):
            self.assertEqual(changed(bits, ("flip", at)), bits[:at] + (1 - bits[at],) + bits[at + 1:])
            self.assertEqual(changed(bits, ("lose", at)), bits[:at] + bits[at + 1:])
        for at in (0, 1, 200, 399, 400):
            for bit in (0, 1):
                self.assertEqual(changed(bits, ("add", at, bit)), bits[:at] + (bit,) + bits[at:])

    def test_wrong_changes(self):
        for value in NO_CHANGES:
            for bits in ((0, 1, 1), (1,) * 9):
                with self.assertRaises(InvalidChange):
                    changed(bits, value)

    def test_wrong_words(self):
        for value in NO_WORDS:
            for change in (("flip", 0), ("add", 0, 0), None):
                with self.assertRaises(InvalidBits):
                    changed(value, change)


class TestHarm(unittest.TestCase):
    def test_between_two_bits_of_a_text(self):
        self.assertEqual(stream(A, [(), (1,)]), (0, 1, 1, 0, 0, 0, 1, 1, 0, 1, 0, 1, 0, 0, 1, 1, 0))
        self.assertEqual(harm(A, [(), (1,)], ("flip", 4)), ([0], ["short"]))
        self.assertEqual(harm(A, [(), (1,)], ("flip", 10)), ([1], ["bit"]))
        self.assertEqual(harm(A, [(), (1,)], ("flip", 9)), ([1], ["check"]))
        self.assertEqual(harm(A, [(), (1,)], ("add", 10, 0)), ([1], [(1, 0)]))
        self.assertEqual(harm(A, [(), (1,)], ("lose", 4)), ([0], ["check"]))

    def test_in_the_first_flag(self):
        # Its payload is hit and has no answer any more.
        for change in (("flip", 0), ("flip", 3), ("lose", 1), ("add", 2, 0), ("add", 3, 1)):
            self.assertEqual(harm(A, [(), (1,)], change), ([0], []), change)
        # Behind the added 0 stands the flag again, and the answer is strange, though it is the payload that was sent.
        self.assertEqual(harm(A, [(), (1,)], ("add", 1, 0)), ([0], [()]))
        self.assertEqual(harm(TWO_ONES, [(0,), ()], ("lose", 0)), ([0], []))

    def test_in_the_last_flag(self):
        for change in (("flip", 13), ("lose", 16), ("add", 15, 0), ("add", 16, 1)):
            self.assertEqual(harm(A, [(), (1,)], change), ([1], []), change)
        self.assertEqual(harm(A, [(), (1,)], ("add", 14, 0)), ([1], [(1, 1)]))

    def test_in_a_flag_between_two_payloads(self):
        for change in (("flip", 5), ("lose", 6), ("add", 7, 0), ("add", 8, 1)):
            hits, strange = harm(A, [(), (1,)], change)
            self.assertEqual((hits, len(strange)), ([0, 1], 1), change)
        self.assertEqual(harm(A, [(), (1,)], ("add", 6, 0)), ([0, 1], [(0,), (1,)]))
        self.assertEqual(harm(B, [(1,), ()], ("flip", 5)), ([0, 1], [(1, 1, 1, 1)]))
        self.assertEqual(harm(B, [(), (1,), (), ()], ("flip", 7)), ([1, 2], [(1, 0, 1)]))

    def test_just_ahead_of_and_behind_a_flag(self):
        # The flag of (1,) begins at 5, and the one behind it at 13.
        self.assertEqual(harm(A, [(), (1,), ()], ("add", 5, 0))[0], [0])
        self.assertEqual(harm(A, [(), (1,), ()], ("add", 6, 0))[0], [0, 1])
        self.assertEqual(harm(A, [(), (1,), ()], ("add", 8, 0))[0], [0, 1])
        self.assertEqual(harm(A, [(), (1,), ()], ("add", 9, 0))[0], [1])
        self.assertEqual(harm(A, [(), (1,), ()], ("flip", 8))[0], [0, 1])
        self.assertEqual(harm(A, [(), (1,), ()], ("flip", 9))[0], [1])
        self.assertEqual(harm(A, [(), (1,), ()], ("flip", 4))[0], [0])
        self.assertEqual(harm(A, [(), (1,), ()], ("flip", 5))[0], [0, 1])

    def test_ahead_of_all_and_behind_all(self):
        for rule in (A, B, TWO_ONES):
            payloads = [(1, 0), ()]
            size = len(stream(rule, payloads))
            for bit in (0, 1):
                for at in (0, size):
                    hits, strange = harm(rule, payloads, ("add", at, bit))
                    self.assertEqual(hits, [])
                    self.assertLessEqual(len(strange), 1)
        self.assertEqual(harm(A, [(1, 0), ()], ("add", 0, 0)), ([], []))

    def test_a_border_that_comes_about(self):
        self.assertEqual(harm(TWO_ZEROS, [()], ("add", 0, 0)), ([], ["overlap"]))
        self.assertEqual(harm(TWO_ZEROS, [()], ("add", 5, 0)), ([], ["overlap"]))
        self.assertEqual(harm(TWO_ZEROS, [()], ("add", 0, 1)), ([], []))
        self.assertEqual(stream(TWO_ZEROS, [(0, 0)]), (0, 0, 1, 0, 1, 0, 1, 0, 0))
        self.assertEqual(harm(TWO_ZEROS, [(0, 0)], ("flip", 4)), ([0], [(), "overlap", ()]))
        self.assertEqual(stream(TWO_ONES, [(), ()]), (1, 1, 0, 1, 1, 0, 1, 1))
        self.assertEqual(harm(TWO_ONES, [(), ()], ("add", 3, 1)), ([0], [(), "overlap"]))
        self.assertEqual(harm(TWO_ONES, [(), ()], ("add", 5, 1)), ([1], ["overlap", ()]))
        self.assertEqual(harm(TWO_ONES, [(), ()], ("add", 4, 1)), ([0, 1], [(), "overlap", ()]))

    def test_a_payload_that_is_not_hit_beside_one_that_is(self):
        payloads = [(1, 1), (0,), (), (1, 0, 1), (1,)]
        for rule in (A, B, TWO_ONES, TWO_ZEROS, THREE):
            sent = stream(rule, payloads)
            for kind in KINDS:
                for change in plain_damage.changes_of(kind, len(sent)):
                    hits, strange = harm(rule, payloads, change)
                    self.assertEqual((hits, strange), plain_damage.harm_of(rule, payloads, change))
                    self.assertLessEqual(len(hits), 2)
                    told = answers(rule, changed(sent, change))
                    self.assertEqual(len(told), len(payloads) - len(hits) + len(strange))

    def test_answers_of_each_kind(self):
        found = {}
        for rule in (A, B, TWO_ONES, TWO_ZEROS, THREE):
            for payloads in plain.lists_by_signs(4):
                for kind in KINDS:
                    for change in plain_damage.changes_of(kind, len(stream(rule, payloads))):
                        for answer in harm(rule, payloads, change)[1]:
                            found[answer if isinstance(answer, str) else "payload"] = True
        self.assertEqual(sorted(found), ["bit", "check", "overlap", "payload", "short"])

    def test_the_empty_list(self):
        for rule in (A, B, SIX):
            for kind in ("flip", "lose"):
                for change in plain_damage.changes_of(kind, len(rule[0])):
                    self.assertEqual(harm(rule, [], change), ([], []))
        self.assertEqual(harm(TWO_ONES, [], ("add", 1, 1)), ([], ["overlap"]))
        self.assertEqual(harm(TWO_ONES, [], ("add", 1, 0)), ([], []))
        self.assertEqual(harm(A, [], ("add", 4, 0)), ([], []))

    def test_against_the_plain_reading(self):
        for rule in clean_rules()[::5] + [A, SIX]:
            for payloads in plain.lists_by_signs(3):
                size = len(plain.stream_of(rule, payloads))
                for kind in KINDS:
                    for change in plain_damage.changes_of(kind, size):
                        told = harm(rule, payloads, change)
                        expected = plain_damage.harm_of(rule, payloads, change)
                        self.assertEqual(told, expected, repr((rule, payloads, change)))

    def test_long_payloads_and_lists(self):
        payloads = [plain.many_bits(100 - 3 * at, at + 1) for at in range(30)]
        for rule in (A, SIX, *GREAT):
            sent = stream(rule, payloads)
            places = borders(rule, sent)
            for at in (0, 29):
                middle = (places[at] + len(rule[0]) + places[at + 1]) // 2
                for change in (("flip", middle), ("lose", middle), ("add", middle, 1)):
                    told = harm(rule, payloads, change)
                    self.assertEqual(told[0], [at])
                    self.assertEqual(told, plain_damage.harm_of(rule, payloads, change))
            for change in (("flip", places[14]), ("lose", places[14] + 1), ("add", places[14] + 1, 0)):
                told = harm(rule, payloads, change)
                self.assertEqual(told[0], [13, 14])
                self.assertEqual(told, plain_damage.harm_of(rule, payloads, change))

    def test_rules_that_are_not_clean(self):
        for rule in NO_CLEAN:
            with self.assertRaises(NotClean) as caught:
                harm(rule, [(1,)], ("flip", 0))
            self.assertEqual(caught.exception.reason, breaking(rule))

    def test_errors_in_order(self):
        for rule in NO_RULES:
            for payloads, change in (([], ("flip", 0)), (None, None)):
                with self.assertRaises(InvalidRule):
                    harm(rule, payloads, change)
        for rule in (A, C):
            for payloads in NO_PAYLOADS:
                for change in (("flip", 0), None):
                    with self.assertRaises(InvalidPayloads):
                        harm(rule, payloads, change)
            for change in NO_CHANGES:
                with self.assertRaises(InvalidChange):
                    harm(rule, [(1,)], change)
            size = len(stream(rule, [(1,)]))
            for change in (("flip", size), ("lose", size), ("add", size + 1, 0)):
                with self.assertRaises(InvalidChange):
                    harm(rule, [(1,)], change)


class TestSilent(unittest.TestCase):
    def test_known_changes(self):
        self.assertIsNone(silent(A, "flip"))
        self.assertEqual(silent(A, "lose"), ([(0,)], ("lose", 3)))
        self.assertEqual(silent(A, "add"), ([()], ("add", 3, 0)))
        self.assertEqual(silent(B, "flip"), ([(0, 0)], ("flip", 3)))
        self.assertEqual(silent(B, "lose"), ([(1,)], ("lose", 2)))
        self.assertEqual(silent(B, "add"), ([()], ("add", 2, 1)))

    def test_none_of_a_kind(self):
        for check in (2, 3):
            for kind in ("lose", "add"):
                self.assertIsNone(silent(((0, 0, 0), (((0,), 1),), check), kind))
            self.assertIsNotNone(silent(((0, 0, 0), (((0,), 1),), check), "flip"))
        for kind in ("lose", "add"):
            self.assertIsNone(silent(((1, 0, 1), (((0,), 0),), 3), kind))

    def test_rules_that_see_each_flip(self):
        # All that is put in is 0, the flag has an even number of ones, and the check is 2.
        seen = 0
        for flag in plain.words(2, 5):
            for words in (((1,),), ((0, 1),), ((1, 1),), ((0,),), ((1, 0),), ((0, 1, 1), (1, 1, 1)), ((0,), (1,))):
                rule = (flag, tuple((word, 0) for word in words), 2)
                if sum(flag) % 2 == 0 and is_clean(rule):
                    self.assertIsNone(silent(rule, "flip"))
                    seen += 1
        self.assertGreater(seen, 20)

    def test_against_the_plain_reading(self):
        told = {}
        for rule in clean_rules()[::2] + [TWO_ONES, THREE]:
            most = 2 * len(rule[0]) + 5
            streams = plain_damage.streams_of(rule, most + 1)
            for kind in KINDS:
                found = silent(rule, kind)
                expected = plain_damage.silent_of(streams, kind, most)
                if expected is not None or found is None:
                    self.assertEqual(found, expected, repr((rule, kind)))
                else:
                    self.assertGreater(len(stream(rule, found[0])), most)
                    self.assert_silent(rule, kind, *found)
                told[(kind, found is None)] = True
        self.assertEqual(len(told), 6)

    def test_great_rules(self):
        for rule in GREAT:
            most = 2 * len(rule[0]) + 3
            streams = plain_damage.streams_of(rule, most + 1)
            for kind in KINDS:
                found = silent(rule, kind)
                expected = plain_damage.silent_of(streams, kind, most)
                if expected is not None:
                    self.assertEqual(found, expected)
                elif found is not None:
                    self.assertGreater(len(stream(rule, found[0])), most)
                    self.assert_silent(rule, kind, *found)

    def assert_silent(self, rule, kind, payloads, change):
        sent = stream(rule, payloads)
        self.assertTrue(is_stream(rule, changed(sent, change)))
        self.assertNotEqual(answers(rule, changed(sent, change)), payloads)
        changes = [
            other for other in plain_damage.changes_of(kind, len(sent)) if is_stream(rule, changed(sent, other))
        ]
        self.assertEqual(change, changes[0])

    def test_the_least_change(self):
        # 0 may be added ahead of or behind the 0 that stands there: the first index is told.
        for rule in clean_rules():
            for kind in KINDS:
                found = silent(rule, kind)
                if found is not None:
                    self.assert_silent(rule, kind, *found)

    def test_rules_that_are_not_clean(self):
        for rule in NO_CLEAN:
            for kind in KINDS:
                with self.assertRaises(NotClean) as caught:
                    silent(rule, kind)
                self.assertEqual(caught.exception.reason, breaking(rule))

    def test_errors_in_order(self):
        for value in NO_RULES:
            for kind in ("flip", "swap", None):
                with self.assertRaises(InvalidRule):
                    silent(value, kind)
        for rule in (A, C):
            for kind in NO_KINDS:
                with self.assertRaises(InvalidKind):
                    silent(rule, kind)


if __name__ == "__main__":
    unittest.main()
