"""Rules as objects: promises [25], [26] and [27]."""

import unittest

import plain
from checks import Raises
from onlyflags.clean import breaking, is_clean
from onlyflags.damage import distance, silent
from onlyflags.errors import (
    InvalidBits, InvalidCheck, InvalidInsert, InvalidKind, InvalidPayloads, InvalidRule, NotClean,
)
from onlyflags.lists import alike
from onlyflags.live import Receiver, Sender
from onlyflags.objects import Framing
from onlyflags.receiving import answers, is_stream
from onlyflags.rules import frame, stream, tails
from onlyflags.shares import share
from plain import A, B, C, NO_RULES, NO_WORDS

TWO_ONES = ((1, 1), (((1,), 0),), 1)
THREE = ((0, 1, 1, 0), (((0,), 1), ((0, 1, 1), 0), ((1, 0), 1)), 3)
LONG = (plain.many_bits(16, 1), tuple(sorted((plain.many_bits(16, step), 1) for step in range(2, 10))), 16)

NO_INSERTS = [
    None, 0, 1, True, "", "10", [], [(1,), 0], {}, object(), (), (1,), (0,), ((1,),), (1, 0), ((1,), 0, 0), ((), 0),
    ((), 1), ((1,), 2), ((1,), -1), ((1,), True), ((1,), False), ((1,), None), ((1,), 0.0), ((1,), "0"), ((1,), (0,)),
    ((1,), plain.IntLike()), ([1], 0), ("1", 0), ((True,), 0), ((2,), 0), ((1.0,), 0), (None, 0), (0, (1,)),
    (((1,), 0),), ((plain.IntLike(),), 0), int, plain.IntLike(), {(1,): 0}, [((0, 0), 1)], ((0, 0), [1]),
]


class TestParts(Raises):
    def test_parts(self):
        for rule in (A, B, C, THREE, LONG, ((0,), (), 1)):
            f = Framing(rule)
            self.assertEqual(f.rule, rule)
            self.assertEqual((f.flag, f.inserts, f.check), rule)
            self.assertEqual([type(part) for part in (f.rule, f.flag, f.inserts, f.check)], [tuple, tuple, tuple, int])

    def test_no_rules(self):
        for value in NO_RULES:
            self.assert_raises_just(InvalidRule, Framing, value)
        self.assert_raises_just(InvalidRule, Framing, Framing(A))

    def test_parts_are_not_set(self):
        f = Framing(A)
        for name in ("rule", "flag", "inserts", "check"):
            with self.assertRaises(AttributeError):
                setattr(f, name, getattr(Framing(B), name))
        self.assertEqual(f.rule, A)

    def test_it_never_changes(self):
        f = Framing(B)
        payloads = [(1, 0), ()]
        before = snapshot(f)
        bits = f(payloads)
        payloads.append((0,))
        f.received(bits).append("changed")
        f.silent("flip")[0].append("changed")
        with self.assertRaises(TypeError):
            f.inserts[0] = ((1,), 1)
        f + ((1, 1), 0), f - (1, 0), f * 3, ~f
        f += ((1, 1), 0)
        f -= (1, 1)
        f *= 1
        self.assertEqual(snapshot(f), before)
        g = Framing(C)
        g.breaking().append("changed")
        self.assertEqual(g.breaking(), [()])

    def test_it_is_not_iterated_over(self):
        with self.assertRaises(TypeError):
            list(Framing(A))


def snapshot(f):
    """All that an object tells."""
    told = [f.rule, f.flag, f.inserts, f.check, bool(f), len(f), f[()], f[(1, 0)], f([()]), f([(1,), (0, 1)])]
    return told + [f.breaking(), f.share(), f.received((1, 0, 1, 1, 0, 1)), f == Framing(f.rule)]


class TestQuestions(Raises):
    def test_bool(self):
        for rule in plain.small_rules(2):
            self.assertIs(bool(Framing(rule)), is_clean(rule))
        self.assertEqual([bool(Framing(rule)) for rule in (A, B, C, TWO_ONES)], [True, True, False, True])

    def test_equal_rules(self):
        self.assertIs(Framing(B) == Framing(B), True)
        self.assertIs(Framing(B) != Framing(B), False)
        self.assertIs(Framing(A) == Framing(B), False)
        self.assertIs(Framing(A) != Framing(B), True)

    def test_alike_with_other_inserts(self):
        f, g = Framing(B), Framing((B[0], (((1, 0), 0), ((1, 0, 0), 1)), 1))
        self.assertNotEqual(f.rule, g.rule)
        self.assertIs(f == g, True)
        self.assertIs(g == f, True)
        self.assertIs(f != g, False)
        # What is put in behind the flag and each 1 is the same, though the words are others.
        one = ((1, 1), (((1,), 0),), 1)
        other = ((1, 1), (((0, 1), 0), ((1,), 0), ((1, 1), 0)), 1)
        self.assertIs(Framing(one) == Framing(other), True)
        self.assertIs(Framing(one) == Framing((one[0], one[1], 2)), False)

    def test_as_the_function(self):
        rules = list(plain.small_rules(2, (1, 2)))
        for one in rules[::5]:
            for other in rules[::7]:
                self.assertIs(Framing(one) == Framing(other), alike(one, other))

    def test_equal_to_nothing_else(self):
        f = Framing(A)
        for other in (A, None, 0, "", [], (), list(A), object(), Framing, Sender(A), Receiver(A), A[0], True):
            self.assertIs(f == other, False)
            self.assertIs(other == f, False)
            self.assertIs(f != other, True)
            self.assertIs(other != f, True)

    def test_in(self):
        for rule in (A, B, C, TWO_ONES, THREE):
            f = Framing(rule)
            for bits in plain.words(0, 8):
                self.assertIs(bits in f, is_stream(rule, bits))
            for payloads in plain.lists_by_signs(3):
                bits = stream(rule, payloads)
                self.assertIs(bits in f, is_stream(rule, bits))
                self.assertIs(bits + (1,) in f, is_stream(rule, bits + (1,)))
        self.assertIs((1, 0, 1) in Framing(B), True)
        self.assertIs((1, 0, 1) not in Framing(B), False)
        self.assertIs((0, 1, 1, 0) in Framing(B), False)

    def test_in_for_any_value(self):
        f = Framing(B)
        for value in [*NO_WORDS, [1, 0, 1], "101", (True, False, True), (1.0, 0.0, 1.0), B, f, (1, 0, 1, None)]:
            self.assertIs(value in f, False)

    def test_texts_and_streams(self):
        for rule in (A, B, C, TWO_ONES, THREE, LONG):
            f = Framing(rule)
            for payload in plain.words(0, 4):
                self.assertEqual(f[payload], frame(rule, payload))
            for payloads in plain.lists_by_signs(4):
                self.assertEqual(f(payloads), stream(rule, payloads))
                self.assertEqual(f(payloads=payloads), stream(rule, payloads))

    def test_wrong_payloads(self):
        f = Framing(A)
        for value in NO_WORDS:
            self.assert_raises_just(InvalidBits, f.__getitem__, value)
            self.assert_raises_just(InvalidPayloads, f, [value])
        for value in (None, (), ((1,),), "", {}, object(), 0):
            self.assert_raises_just(InvalidPayloads, f, value)
        self.assert_raises_just(InvalidBits, f.__getitem__, slice(0, 1))

    def test_len(self):
        for rule in plain.small_rules(2, (1,)):
            self.assertEqual(len(Framing(rule)), len(tails(rule)))
        self.assertEqual([len(Framing(rule)) for rule in (A, B, ((0,), (), 5))], [1, 2, 1])
        self.assertEqual(len(Framing(LONG)), len(tails(LONG)))


class TestOperators(Raises):
    def test_one_insert_more(self):
        middle = ((0, 1), (((0, 1), 1), ((1,), 0), ((1, 1), 0)), 3)
        f = Framing(middle)
        places = []
        for word in plain.words(1, 4):
            if word in [one for one, _ in middle[1]]:
                continue
            for bit in (0, 1):
                g = f + (word, bit)
                self.assertIs(type(g), Framing)
                self.assertEqual(g.rule, (middle[0], tuple(sorted([*middle[1], (word, bit)])), 3))
                self.assertEqual((g - word).rule, middle)
                places.append(g.inserts.index((word, bit)))
        self.assertEqual(sorted(set(places)), [0, 1, 2, 3])
        self.assertEqual(f.rule, middle)
        self.assertEqual((Framing(((0,), (), 1)) + ((1,), 1)).rule, ((0,), (((1,), 1),), 1))

    def test_an_insert_that_never_comes_about(self):
        f = Framing(B)
        g = f + ((1, 0, 0), 1)
        self.assertIs(f == g, True)
        self.assertEqual(g.inserts, (((1, 0), 0), ((1, 0, 0), 1)))
        self.assertIs(f == f + ((1,), 1), False)

    def test_an_insert_that_is_there(self):
        f = Framing(THREE)
        for word, bit in THREE[1]:
            self.assert_raises_just(InvalidInsert, f.__add__, (word, bit))
            self.assert_raises_just(InvalidInsert, f.__add__, (word, 1 - bit))
        self.assertEqual(f.rule, THREE)

    def test_no_inserts(self):
        f = Framing(B)
        for value in NO_INSERTS:
            with self.assertRaises(InvalidInsert, msg=repr(value)):
                f + value
        with self.assertRaises(InvalidInsert):
            f + f
        with self.assertRaises(InvalidInsert):
            f += (1, 1)
        self.assertEqual(f.rule, B)

    def test_one_insert_less(self):
        f = Framing(THREE)
        for word, bit in THREE[1]:
            g = f - word
            self.assertIs(type(g), Framing)
            self.assertEqual(g.rule, (THREE[0], tuple(one for one in THREE[1] if one != (word, bit)), 3))
            self.assertEqual((g + (word, bit)).rule, THREE)
        self.assertEqual((f - (0,) - (1, 0) - (0, 1, 1)).inserts, ())
        self.assertEqual(f.rule, THREE)

    def test_no_word_of_it(self):
        f = Framing((B[0], (((0,), 1), ((1,), 0)), 1))
        others = [value for value in NO_INSERTS if value not in ((0,), (1,))]
        for value in [*NO_WORDS, *others, (0, 0), (1, 0), (0, 1, 0), (), ((1,), 0), (True,), (1.0,), [1], f, 1]:
            with self.assertRaises(InvalidInsert, msg=repr(value)):
                f - value
        with self.assertRaises(InvalidInsert):
            f - (1,) - (1,)
        with self.assertRaises(InvalidInsert):
            Framing(((0,), (), 1)) - (0,)
        self.assertEqual(len(f.inserts), 2)

    def test_another_check(self):
        f = Framing(THREE)
        for check in (1, 2, 3, 16, 999999):
            g = f * check
            self.assertIs(type(g), Framing)
            self.assertEqual(g.rule, (THREE[0], THREE[1], check))
        self.assertIs(f * 3 == f, True)
        self.assertIs(f * 1 == f, False)
        self.assertEqual(f.rule, THREE)

    def test_no_checks(self):
        f = Framing(A)
        for value in (
            0, -1, -99, True, False, None, 1.0, 2.5, "1", "", (1,), [1], {}, object(), plain.IntLike(), f, int,
            ((1,), 0),
        ):
            with self.assertRaises(InvalidCheck, msg=repr(value)):
                f * value
        self.assertEqual(f.check, 2)

    def test_exchanged(self):
        g = ~Framing(THREE)
        self.assertIs(type(g), Framing)
        self.assertEqual(g.rule, ((1, 0, 0, 1), (((0, 1), 0), ((1,), 0), ((1, 0, 0), 1)), 3))
        for rule in [*plain.small_rules(2), A, B, C, THREE, LONG]:
            f = Framing(rule)
            self.assertEqual((~~f).rule, rule)
            self.assertEqual(f.rule, rule)
            self.assertEqual(len(~f), len(f))

    def test_exchanged_sends_all_exchanged(self):
        for flag, inserts, _ in (A, B, C, THREE, LONG):
            f = Framing((flag, inserts, 1))
            for payloads in plain.lists_by_signs(4):
                turned = [exchanged(payload) for payload in payloads]
                self.assertEqual((~f)(turned), exchanged(f(payloads)))
            self.assertIs(bool(~f), bool(f))

    def test_operators_behind_one_another(self):
        f = (~(Framing(A) * 3) + ((1, 1), 0)) - (0,)
        self.assertEqual(f.rule, ((1, 0, 0, 1), (((1, 1), 0),), 3))


def exchanged(bits):
    return tuple(1 - bit for bit in bits)


class TestMethods(Raises):
    def test_as_the_functions(self):
        for rule in (A, B, TWO_ONES, ((0, 1, 1, 0), (((0, 1, 1), 1),), 1), ((0, 0), (((0,), 1),), 3)):
            f = Framing(rule)
            self.assertIsNone(f.breaking())
            self.assertEqual(f.share(), share(rule))
            self.assertEqual(f.distance(), distance(rule))
            for kind in ("flip", "lose", "add"):
                self.assertEqual(f.silent(kind), silent(rule, kind))
                self.assertEqual(f.silent(kind=kind), silent(rule, kind))

    def test_breaking_and_share_of_any_rule(self):
        for rule in plain.small_rules(2, (1, 2)):
            f = Framing(rule)
            self.assertEqual(f.breaking(), breaking(rule))
            self.assertEqual(f.share(), share(rule))

    def test_received(self):
        for rule in (A, B, C, TWO_ONES):
            f = Framing(rule)
            for bits in plain.words(0, 8):
                self.assertEqual(f.received(bits), answers(rule, bits))
            self.assertEqual(f.received(bits=f([(1,), ()])), answers(rule, stream(rule, [(1,), ()])))
            for value in NO_WORDS:
                self.assert_raises_just(InvalidBits, f.received, value)

    def test_no_kinds(self):
        for f in (Framing(A), Framing(C)):
            for value in ("", "flips", "Flip", None, 0, True, ("flip",), ["flip"], b"flip", {}, plain.IntLike()):
                self.assert_raises_just(InvalidKind, f.silent, value)

    def test_not_clean_in_any_order(self):
        f = Framing(C)
        for _ in range(2):
            for call, values in (
                (f.distance, []), (f.silent, ["flip"]), (f.silent, ["add"]), (f.distance, []), (f.silent, ["lose"]),
            ):
                error = self.assert_raises_just(NotClean, call, *values)
                self.assertEqual(error.reason, [()])
                error.reason.append("changed")
            self.assert_raises_just(InvalidKind, f.silent, "none")
            self.assertEqual(f.breaking(), [()])
            self.assertIs(bool(f), False)
        reason = self.assert_raises_just(NotClean, Framing(((1, 1), (((1, 1), 0),), 1)).distance).reason
        self.assertEqual(reason, [(1,)])

    def test_new_lists(self):
        f = Framing(B)
        for call in (lambda: f.silent("flip")[0], lambda: f.received((1, 0, 1) * 2), Framing(C).breaking):
            first, second = call(), call()
            self.assertIsNot(first, second)
            first.append("changed")
            self.assertEqual(call(), second)


if __name__ == "__main__":
    unittest.main()
