"""Conventions that hold of all functions: promises [1] to [3]."""

import copy
import unittest

from onlyflags import clean, receiving, rules
from onlyflags.errors import InvalidBits, InvalidPayloads, InvalidRule, NotClean
from plain import A, B, C

BITS = (0, 1, 1, 0, 1, 1, 0, 0, 0, 1, 1, 0)

# Each function of the interface with the names of its arguments and some values of them.
CALLS = [
    (rules.is_word, {"value": (0, 1)}),
    (rules.is_rule, {"value": A}),
    (rules.letter, {"rule": A, "payload": (1, 0)}),
    (rules.frame, {"rule": A, "payload": (1, 0)}),
    (rules.stream, {"rule": A, "payloads": [(1, 0), ()]}),
    (rules.tails, {"rule": B}),
    (receiving.borders, {"rule": A, "bits": BITS}),
    (receiving.answers, {"rule": A, "bits": BITS}),
    (receiving.loose, {"rule": A, "bits": BITS}),
    (receiving.is_stream, {"rule": A, "bits": BITS}),
    (clean.is_clean, {"rule": B}),
    (clean.breaking, {"rule": B}),
    (clean.breaking, {"rule": C}),
    (clean.clean_table, {"rule": B}),
    (clean.is_clean_table, {"rule": B, "value": [((), (), 0), ((1,), (1,), 0)]}),
]


class TestCalls(unittest.TestCase):
    def test_by_position_and_by_name(self):
        for call, named in CALLS:
            told = call(*named.values())
            self.assertEqual(call(**named), told)
            backwards = dict(reversed(list(named.items())))
            self.assertEqual(call(**backwards), told)

    def test_arguments_do_not_change(self):
        for call, named in CALLS:
            before = copy.deepcopy(named)
            call(**named)
            self.assertEqual(named, before)

    def test_new_lists_each_time(self):
        lists = 0
        for call, named in CALLS:
            first, second = call(**named), call(**named)
            self.assertEqual(first, second)
            if isinstance(first, list):
                lists += 1
                self.assertIsNot(first, second)
                first.clear()
                first.append("changed")
                self.assertEqual(call(**named), second)
        self.assertEqual(lists, 5)

    def test_the_reason_is_a_new_list_each_time(self):
        reasons = []
        for _ in range(2):
            with self.assertRaises(NotClean) as caught:
                clean.clean_table(C)
            reasons.append(caught.exception.reason)
        self.assertIsNot(reasons[0], reasons[1])
        reasons[0].append("changed")
        self.assertEqual(clean.breaking(C), [()])
        with self.assertRaises(NotClean) as caught:
            clean.clean_table(C)
        self.assertEqual(caught.exception.reason, [()])

    def test_a_list_that_is_changed_after_the_call(self):
        payloads = [(1,), ()]
        sent = rules.stream(A, payloads)
        payloads.append((0,))
        self.assertEqual(sent, rules.stream(A, [(1,), ()]))
        self.assertEqual(rules.stream(A, payloads), sent[:-4] + rules.stream(A, [(0,)]))
        table = clean.clean_table(B)
        self.assertIs(clean.is_clean_table(B, table), True)
        table.pop()
        self.assertIs(clean.is_clean_table(B, table), False)
        self.assertEqual(len(clean.clean_table(B)), 2)

    def test_kinds_of_answers(self):
        self.assertIs(type(rules.letter(A, ())), tuple)
        self.assertIs(type(rules.frame(A, ())), tuple)
        self.assertIs(type(rules.stream(A, [])), tuple)
        self.assertIs(type(rules.tails(A)), list)
        self.assertIs(type(receiving.borders(A, BITS)), list)
        self.assertIs(type(receiving.answers(A, BITS)), list)
        self.assertIs(type(receiving.loose(A, BITS)), tuple)
        self.assertIs(type(clean.breaking(C)), list)
        self.assertIs(type(clean.clean_table(A)), list)


class TestErrorsInOrder(unittest.TestCase):
    NO_RULE = ((0, 1), (), True)

    def test_the_rule_comes_first(self):
        for call in (rules.letter, rules.frame, receiving.borders, receiving.answers, receiving.loose):
            self.assert_raises_just(InvalidRule, call, self.NO_RULE, None)
            self.assert_raises_just(InvalidBits, call, A, [0, 1])
        self.assert_raises_just(InvalidRule, receiving.is_stream, self.NO_RULE, None)
        self.assert_raises_just(InvalidBits, receiving.is_stream, A, None)
        self.assert_raises_just(InvalidRule, rules.stream, self.NO_RULE, None)
        self.assert_raises_just(InvalidPayloads, rules.stream, A, None)
        self.assert_raises_just(InvalidPayloads, rules.stream, A, [[0, 1]])
        self.assert_raises_just(InvalidRule, clean.is_clean_table, self.NO_RULE, None)
        self.assert_raises_just(InvalidRule, clean.clean_table, self.NO_RULE)
        self.assert_raises_just(NotClean, clean.clean_table, C)

    def test_names_do_not_change_the_order(self):
        with self.assertRaises(InvalidRule):
            rules.letter(payload=None, rule=self.NO_RULE)
        with self.assertRaises(InvalidRule):
            rules.stream(payloads=None, rule=self.NO_RULE)
        with self.assertRaises(InvalidRule):
            receiving.is_stream(bits=None, rule=self.NO_RULE)

    def test_true_and_false_are_no_integers(self):
        self.assertIs(rules.is_word((True, False)), False)
        self.assertIs(rules.is_rule(((False, True), (), 1)), False)
        self.assertIs(rules.is_rule(((0, 1), (((1,), False),), 1)), False)
        self.assert_raises_just(InvalidBits, rules.letter, A, (True,))
        self.assert_raises_just(InvalidPayloads, rules.stream, A, [(False,)])
        self.assert_raises_just(InvalidBits, receiving.borders, A, (0, True, 1, 0))

    def assert_raises_just(self, error, call, *values):
        with self.assertRaises(error) as caught:
            call(*values)
        self.assertIs(type(caught.exception), error)


if __name__ == "__main__":
    unittest.main()
