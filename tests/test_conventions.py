"""Conventions that hold of all functions: promises [1] to [3]."""

import copy
import unittest

from onlyflags import clean, damage, finding, lists, receiving, rules, shares
from onlyflags.errors import (
    InvalidBits, InvalidChange, InvalidFlag, InvalidFraction, InvalidIndex, InvalidKind, InvalidLength, InvalidPayloads,
    InvalidRule, NotClean,
)
from plain import A, B, C
from test_package import INTERFACE

BITS = (0, 1, 1, 0, 1, 1, 0, 0, 0, 1, 1, 0)

# Each function of the interface with the names of its arguments and some values of them.
CALLS = [
    (rules.is_word, {"value": (0, 1)}),
    (rules.is_rule, {"value": A}),
    (rules.letter, {"rule": A, "payload": (1, 0)}),
    (rules.frame, {"rule": A, "payload": (1, 0)}),
    (rules.stream, {"rule": A, "payloads": [(1, 0), ()]}),
    (rules.tails, {"rule": B}),
    (receiving.borders, {"rule": A, "bits": BITS}),
    (receiving.answers, {"rule": A, "bits": BITS}),
    (receiving.loose, {"rule": A, "bits": BITS}),
    (receiving.is_stream, {"rule": A, "bits": BITS}),
    (clean.is_clean, {"rule": B}),
    (clean.breaking, {"rule": B}),
    (clean.breaking, {"rule": C}),
    (clean.clean_table, {"rule": B}),
    (clean.is_clean_table, {"rule": B, "value": [((), (), 0), ((1,), (1,), 0)]}),
    (shares.share, {"rule": B}),
    (shares.ring, {"rule": B}),
    (shares.most_put, {"rule": B, "length": 3}),
    (shares.share_table, {"rule": B}),
    (shares.is_share_table, {"rule": B, "fraction": (1, 2), "value": [((1,), 0), ((), 1)]}),
    (lists.alike, {"one": A, "other": B}),
    (lists.parting, {"one": A, "other": B}),
    (lists.parting, {"one": B, "other": (B[0], (), 1)}),
    (lists.count_lists, {"rule": B, "length": 9}),
    (lists.nth_list, {"rule": B, "length": 9, "index": 3}),
    (lists.nth_list, {"rule": B, "length": 3, "index": 0}),
    (lists.list_index, {"rule": B, "payloads": [(), ()]}),
    (damage.changed, {"bits": (0, 1), "change": ("add", 2, 1)}),
    (damage.harm, {"rule": B, "payloads": [(1,), ()], "change": ("flip", 5)}),
    (damage.harm, {"rule": B, "payloads": [], "change": ("flip", 1)}),
    (damage.silent, {"rule": B, "kind": "flip"}),
    (damage.silent, {"rule": A, "kind": "flip"}),
    (damage.distance, {"rule": A}),
    (damage.nearest, {"rule": A}),
    (damage.spread, {"rule": A, "kind": "lose"}),
    (finding.clean_words, {"flag": (0, 1, 1)}),
    (finding.clean_words, {"flag": (0, 1)}),
    (finding.best_rules, {"flag": (0, 1, 1)}),
]

# Functions that answer for clean rules only, with the values of their other arguments.
CLEAN_ONLY = [
    (clean.clean_table, []),
    (damage.harm, [[(1,)], ("flip", 0)]),
    (damage.silent, ["add"]),
    (damage.distance, []),
    (damage.nearest, []),
    (damage.spread, ["lose"]),
]


def lists_in(value):
    """The lists in an answer: itself, or those in a tuple."""
    if isinstance(value, list):
        return [value]
    if isinstance(value, tuple):
        return [part for part in value if isinstance(part, list)]
    return []


class TestCalls(unittest.TestCase):
    def test_by_position_and_by_name(self):
        for call, named in CALLS:
            told = call(*named.values())
            self.assertEqual(call(**named), told)
            backwards = dict(reversed(list(named.items())))
            self.assertEqual(call(**backwards), told)

    def test_arguments_do_not_change(self):
        for call, named in CALLS:
            before = copy.deepcopy(named)
            call(**named)
            self.assertEqual(named, before)

    def test_all_functions_are_called(self):
        called = {(call.__module__.split(".")[1], call.__name__) for call, _ in CALLS}
        self.assertEqual(called, {(name, call) for name, calls in INTERFACE.items() for call in calls})

    def test_new_lists_each_time(self):
        many = 0
        for call, named in CALLS:
            first, second = call(**named), call(**named)
            self.assertEqual(first, second)
            expected = copy.deepcopy(first)
            found = lists_in(first) + lists_in(second)
            self.assertEqual(len({id(one) for one in found}), len(found))
            self.assertFalse({id(one) for one in found} & {id(value) for value in named.values()})
            for one in found:
                many += 1
                one.append("changed")
                one.reverse()
            self.assertEqual(call(**named), expected)
        self.assertEqual(many, 2 * 20)

    def test_the_reason_is_a_new_list_each_time(self):
        for call, more in CLEAN_ONLY:
            reasons = []
            for _ in range(2):
                with self.assertRaises(NotClean) as caught:
                    call(C, *more)
                reasons.append(caught.exception.reason)
            self.assertIsNot(reasons[0], reasons[1])
            reasons[0].append("changed")
            self.assertEqual(reasons[1], [()])
            self.assertEqual(clean.breaking(C), [()])
            with self.assertRaises(NotClean) as caught:
                call(C, *more)
            self.assertEqual(caught.exception.reason, [()])

    def test_a_list_that_is_changed_after_the_call(self):
        payloads = [(1,), ()]
        sent = rules.stream(A, payloads)
        payloads.append((0,))
        self.assertEqual(sent, rules.stream(A, [(1,), ()]))
        self.assertEqual(rules.stream(A, payloads), sent[:-4] + rules.stream(A, [(0,)]))
        table = clean.clean_table(B)
        self.assertIs(clean.is_clean_table(B, table), True)
        table.pop()
        self.assertIs(clean.is_clean_table(B, table), False)
        self.assertEqual(len(clean.clean_table(B)), 2)
        table = shares.share_table(B)
        self.assertIs(shares.is_share_table(B, (1, 2), table), True)
        table.pop()
        self.assertIs(shares.is_share_table(B, (1, 2), table), False)
        payloads = lists.nth_list(B, 9, 4)
        payloads.append(())
        self.assertEqual(lists.nth_list(B, 9, 4), [(), ()])
        hits, strange = damage.harm(B, payloads, ("flip", 5))
        payloads.clear()
        self.assertEqual((hits, strange), ([0, 1], [(1, 0)]))

    def test_kinds_of_answers(self):
        self.assertIs(type(rules.letter(A, ())), tuple)
        self.assertIs(type(rules.frame(A, ())), tuple)
        self.assertIs(type(rules.stream(A, [])), tuple)
        self.assertIs(type(rules.tails(A)), list)
        self.assertIs(type(receiving.borders(A, BITS)), list)
        self.assertIs(type(receiving.answers(A, BITS)), list)
        self.assertIs(type(receiving.loose(A, BITS)), tuple)
        self.assertIs(type(clean.breaking(C)), list)
        self.assertIs(type(clean.clean_table(A)), list)
        for fraction in (shares.share(A), shares.share(((0, 1), (), 1))):
            self.assertEqual([type(part) for part in (fraction, *fraction)], [tuple, int, int])
        self.assertEqual([type(part) for part in shares.ring(A)], [tuple, tuple])
        self.assertEqual([type(part) for part in shares.most_put(A, 2)], [int, tuple])
        self.assertIs(type(shares.share_table(A)), list)
        self.assertIs(type(lists.count_lists(A, 4)), int)
        self.assertIs(type(lists.count_lists(A, 0)), int)
        self.assertIs(type(lists.list_index(A, [])), int)
        self.assertIs(type(lists.nth_list(A, 4, 0)), list)
        self.assertIs(type(damage.changed((0,), ("lose", 0))), tuple)
        self.assertEqual([type(part) for part in damage.harm(A, [], ("flip", 0))], [list, list])
        self.assertEqual([type(part) for part in damage.silent(B, "flip")], [list, tuple])
        self.assertEqual([type(part) for part in damage.nearest(B)], [list, list])
        self.assertIs(type(damage.distance(B)), int)
        self.assertIs(type(damage.spread(B, "add")), int)
        self.assertIs(type(finding.best_rules((0, 1))), list)


class TestErrorsInOrder(unittest.TestCase):
    NO_RULE = ((0, 1), (), True)

    def test_the_rule_comes_first(self):
        for call in (rules.letter, rules.frame, receiving.borders, receiving.answers, receiving.loose):
            self.assert_raises_just(InvalidRule, call, self.NO_RULE, None)
            self.assert_raises_just(InvalidBits, call, A, [0, 1])
        self.assert_raises_just(InvalidRule, receiving.is_stream, self.NO_RULE, None)
        self.assert_raises_just(InvalidBits, receiving.is_stream, A, None)
        self.assert_raises_just(InvalidRule, rules.stream, self.NO_RULE, None)
        self.assert_raises_just(InvalidPayloads, rules.stream, A, None)
        self.assert_raises_just(InvalidPayloads, rules.stream, A, [[0, 1]])
        self.assert_raises_just(InvalidRule, clean.is_clean_table, self.NO_RULE, None)
        self.assert_raises_just(InvalidRule, clean.clean_table, self.NO_RULE)
        self.assert_raises_just(NotClean, clean.clean_table, C)

    def test_the_errors_of_each_function(self):
        no = self.NO_RULE
        for error, call, values in (
            (InvalidRule, shares.most_put, (no, -1)), (InvalidLength, shares.most_put, (B, -1)),
            (InvalidRule, shares.is_share_table, (no, (2, 2), [])),
            (InvalidFraction, shares.is_share_table, (B, (2, 2), [])),
            (InvalidRule, lists.parting, (A, no)), (InvalidRule, lists.alike, (no, B)),
            (InvalidRule, lists.count_lists, (no, True)), (InvalidLength, lists.count_lists, (B, True)),
            (InvalidRule, lists.nth_list, (no, -1, -1)), (InvalidLength, lists.nth_list, (B, -1, -1)),
            (InvalidIndex, lists.nth_list, (B, 9, 5)), (InvalidRule, lists.list_index, (no, None)),
            (InvalidPayloads, lists.list_index, (B, None)), (InvalidBits, damage.changed, ([0], None)),
            (InvalidChange, damage.changed, ((0,), None)), (InvalidRule, damage.harm, (no, None, None)),
            (InvalidPayloads, damage.harm, (C, None, None)), (InvalidChange, damage.harm, (C, [], None)),
            (NotClean, damage.harm, (C, [], ("flip", 0))), (InvalidRule, damage.silent, (no, None)),
            (InvalidKind, damage.silent, (C, None)), (NotClean, damage.silent, (C, "flip")),
            (InvalidRule, damage.spread, (no, None)), (InvalidKind, damage.spread, (C, None)),
            (NotClean, damage.spread, (C, "flip")), (InvalidRule, damage.distance, (no,)),
            (NotClean, damage.distance, (C,)), (InvalidRule, damage.nearest, (no,)), (NotClean, damage.nearest, (C,)),
            (InvalidFlag, finding.clean_words, ((),)), (InvalidFlag, finding.best_rules, ([1],)),
        ):
            self.assert_raises_just(error, call, *values)

    def test_names_do_not_change_the_order(self):
        with self.assertRaises(InvalidRule):
            damage.harm(change=None, payloads=None, rule=self.NO_RULE)
        with self.assertRaises(InvalidLength):
            lists.nth_list(index=None, length=None, rule=B)
        with self.assertRaises(InvalidRule):
            rules.letter(payload=None, rule=self.NO_RULE)
        with self.assertRaises(InvalidRule):
            rules.stream(payloads=None, rule=self.NO_RULE)
        with self.assertRaises(InvalidRule):
            receiving.is_stream(bits=None, rule=self.NO_RULE)

    def test_true_and_false_are_no_integers(self):
        self.assertIs(rules.is_word((True, False)), False)
        self.assertIs(rules.is_rule(((False, True), (), 1)), False)
        self.assertIs(rules.is_rule(((0, 1), (((1,), False),), 1)), False)
        self.assert_raises_just(InvalidBits, rules.letter, A, (True,))
        self.assert_raises_just(InvalidPayloads, rules.stream, A, [(False,)])
        self.assert_raises_just(InvalidBits, receiving.borders, A, (0, True, 1, 0))

    def assert_raises_just(self, error, call, *values):
        with self.assertRaises(error) as caught:
            call(*values)
        self.assertIs(type(caught.exception), error)


if __name__ == "__main__":
    unittest.main()
