"""Conventions that hold of all functions: promises [1] to [3]."""

import copy
import unittest

from checks import Raises
from onlyflags import clean, damage, finding, lists, receiving, rules, shares, texts
from onlyflags.errors import (
    InvalidBits, InvalidChange, InvalidCheck, InvalidFlag, InvalidFraction, InvalidIndex, InvalidInsert, InvalidKind,
    InvalidLength, InvalidNumber, InvalidPayloads, InvalidRule, InvalidText, NotClean,
)
from onlyflags.lines import CappedLine, Line, StrictCappedLine, StrictLine
from onlyflags.live import Receiver, Sender
from onlyflags.objects import Framing
from plain import A, B, C
from test_package import INTERFACE

BITS = (0, 1, 1, 0, 1, 1, 0, 0, 0, 1, 1, 0)

# Each function of the interface with the names of its arguments and some values of them.
CALLS = [
    (rules.is_word, {"value": (0, 1)}),
    (rules.is_rule, {"value": A}),
    (rules.letter, {"rule": A, "payload": (1, 0)}),
    (rules.frame, {"rule": A, "payload": (1, 0)}),
    (rules.stream, {"rule": A, "payloads": [(1, 0), ()]}),
    (rules.tails, {"rule": B}),
    (receiving.borders, {"rule": A, "bits": BITS}),
    (receiving.answers, {"rule": A, "bits": BITS}),
    (receiving.loose, {"rule": A, "bits": BITS}),
    (receiving.is_stream, {"rule": A, "bits": BITS}),
    (clean.is_clean, {"rule": B}),
    (clean.breaking, {"rule": B}),
    (clean.breaking, {"rule": C}),
    (clean.clean_table, {"rule": B}),
    (clean.is_clean_table, {"rule": B, "value": [((), (), 0), ((1,), (1,), 0)]}),
    (shares.share, {"rule": B}),
    (shares.ring, {"rule": B}),
    (shares.most_put, {"rule": B, "length": 3}),
    (shares.share_table, {"rule": B}),
    (shares.is_share_table, {"rule": B, "fraction": (1, 2), "value": [((1,), 0), ((), 1)]}),
    (lists.alike, {"one": A, "other": B}),
    (lists.parting, {"one": A, "other": B}),
    (lists.parting, {"one": B, "other": (B[0], (), 1)}),
    (lists.count_lists, {"rule": B, "length": 9}),
    (lists.nth_list, {"rule": B, "length": 9, "index": 3}),
    (lists.nth_list, {"rule": B, "length": 3, "index": 0}),
    (lists.list_index, {"rule": B, "payloads": [(), ()]}),
    (damage.changed, {"bits": (0, 1), "change": ("add", 2, 1)}),
    (damage.harm, {"rule": B, "payloads": [(1,), ()], "change": ("flip", 5)}),
    (damage.harm, {"rule": B, "payloads": [], "change": ("flip", 1)}),
    (damage.silent, {"rule": B, "kind": "flip"}),
    (damage.silent, {"rule": A, "kind": "flip"}),
    (damage.distance, {"rule": A}),
    (damage.nearest, {"rule": A}),
    (damage.spread, {"rule": A, "kind": "lose"}),
    (finding.clean_words, {"flag": (0, 1, 1)}),
    (finding.clean_words, {"flag": (0, 1)}),
    (finding.best_rules, {"flag": (0, 1, 1)}),
    (texts.show_word, {"bits": (0, 1)}),
    (texts.parse_word, {"text": "01"}),
    (texts.show_rule, {"rule": A}),
    (texts.parse_rule, {"text": "flag 0110; 1 puts 0; check 2"}),
    (texts.show_payloads, {"payloads": [(1, 0), ()]}),
    (texts.parse_payloads, {"text": "10 -"}),
    (texts.parse_payloads, {"text": "none"}),
]

# Functions that answer for clean rules only, with the values of their other arguments.
CLEAN_ONLY = [
    (clean.clean_table, []),
    (damage.harm, [[(1,)], ("flip", 0)]),
    (damage.silent, ["add"]),
    (damage.distance, []),
    (damage.nearest, []),
    (damage.spread, ["lose"]),
]


def lists_in(value):
    """The lists in an answer: itself, or those in a tuple."""
    if isinstance(value, list):
        return [value]
    if isinstance(value, tuple):
        return [part for part in value if isinstance(part, list)]
    return []


class TestCalls(unittest.TestCase):
    def test_by_position_and_by_name(self):
        for call, named in CALLS:
            told = call(*named.values())
            self.assertEqual(call(**named), told)
            backwards = dict(reversed(list(named.items())))
            self.assertEqual(call(**backwards), told)

    def test_arguments_do_not_change(self):
        for call, named in CALLS:
            before = copy.deepcopy(named)
            call(**named)
            self.assertEqual(named, before)

    def test_all_functions_are_called(self):
        called = {(call.__module__.split(".")[1], call.__name__) for call, _ in CALLS}
        self.assertEqual(called, {(name, call) for name, calls in INTERFACE.items() for call in calls})

    def test_new_lists_each_time(self):
        many = 0
        for call, named in CALLS:
            first, second = call(**named), call(**named)
            self.assertEqual(first, second)
            expected = copy.deepcopy(first)
            found = lists_in(first) + lists_in(second)
            self.assertEqual(len({id(one) for one in found}), len(found))
            self.assertFalse({id(one) for one in found} & {id(value) for value in named.values()})
            for one in found:
                many += 1
                one.append("changed")
                one.reverse()
            self.assertEqual(call(**named), expected)
        self.assertEqual(many, 2 * 22)

    def test_the_reason_is_a_new_list_each_time(self):
        for call, more in CLEAN_ONLY:
            reasons = []
            for _ in range(2):
                with self.assertRaises(NotClean) as caught:
                    call(C, *more)
                reasons.append(caught.exception.reason)
            self.assertIsNot(reasons[0], reasons[1])
            reasons[0].append("changed")
            self.assertEqual(reasons[1], [()])
            self.assertEqual(clean.breaking(C), [()])
            with self.assertRaises(NotClean) as caught:
                call(C, *more)
            self.assertEqual(caught.exception.reason, [()])

    def test_a_list_that_is_changed_after_the_call(self):
        payloads = [(1,), ()]
        sent = rules.stream(A, payloads)
        payloads.append((0,))
        self.assertEqual(sent, rules.stream(A, [(1,), ()]))
        self.assertEqual(rules.stream(A, payloads), sent[:-4] + rules.stream(A, [(0,)]))
        table = clean.clean_table(B)
        self.assertIs(clean.is_clean_table(B, table), True)
        table.pop()
        self.assertIs(clean.is_clean_table(B, table), False)
        self.assertEqual(len(clean.clean_table(B)), 2)
        table = shares.share_table(B)
        self.assertIs(shares.is_share_table(B, (1, 2), table), True)
        table.pop()
        self.assertIs(shares.is_share_table(B, (1, 2), table), False)
        payloads = lists.nth_list(B, 9, 4)
        payloads.append(())
        self.assertEqual(lists.nth_list(B, 9, 4), [(), ()])
        hits, strange = damage.harm(B, payloads, ("flip", 5))
        payloads.clear()
        self.assertEqual((hits, strange), ([0, 1], [(1, 0)]))

    def test_kinds_of_answers(self):
        self.assertIs(type(rules.letter(A, ())), tuple)
        self.assertIs(type(rules.frame(A, ())), tuple)
        self.assertIs(type(rules.stream(A, [])), tuple)
        self.assertIs(type(rules.tails(A)), list)
        self.assertIs(type(receiving.borders(A, BITS)), list)
        self.assertIs(type(receiving.answers(A, BITS)), list)
        self.assertIs(type(receiving.loose(A, BITS)), tuple)
        self.assertIs(type(clean.breaking(C)), list)
        self.assertIs(type(clean.clean_table(A)), list)
        for fraction in (shares.share(A), shares.share(((0, 1), (), 1))):
            self.assertEqual([type(part) for part in (fraction, *fraction)], [tuple, int, int])
        self.assertEqual([type(part) for part in shares.ring(A)], [tuple, tuple])
        self.assertEqual([type(part) for part in shares.most_put(A, 2)], [int, tuple])
        self.assertIs(type(shares.share_table(A)), list)
        self.assertIs(type(lists.count_lists(A, 4)), int)
        self.assertIs(type(lists.count_lists(A, 0)), int)
        self.assertIs(type(lists.list_index(A, [])), int)
        self.assertIs(type(lists.nth_list(A, 4, 0)), list)
        self.assertIs(type(damage.changed((0,), ("lose", 0))), tuple)
        self.assertEqual([type(part) for part in damage.harm(A, [], ("flip", 0))], [list, list])
        self.assertEqual([type(part) for part in damage.silent(B, "flip")], [list, tuple])
        self.assertEqual([type(part) for part in damage.nearest(B)], [list, list])
        self.assertIs(type(damage.distance(B)), int)
        self.assertIs(type(damage.spread(B, "add")), int)
        self.assertIs(type(finding.best_rules((0, 1))), list)


class TestObjects(unittest.TestCase):
    def ways(self):
        """Each way to a list, as a function that takes it anew."""
        x, r, s = Line(A), Receiver(A), Sender(A)
        x.send((1,)), r.take(rules.stream(A, [(1,), ()])), s.send((1,))
        f = Framing(B)
        return [
            lambda: f.received((1, 0, 1, 1, 0, 1)), lambda: f.silent("flip")[0], Framing(C).breaking,
            lambda: s.payloads, lambda: s.twin().payloads, lambda: r.answers, lambda: r.twin().answers,
            lambda: r.take(()), lambda: x.payloads, lambda: x.answers, x.tell, StrictLine(A).tell, CappedLine(A).tell,
            StrictCappedLine(A).tell, lambda: Line(A).send((1,)), lambda: Line.read("flag 1; check 1").payloads,
        ]

    def test_new_lists_each_time(self):
        for call in self.ways():
            first, second = call(), call()
            self.assertIs(type(first), list)
            self.assertIsNot(first, second)
            self.assertEqual(first, second)
            first.append("changed")
            first.reverse()
            self.assertEqual(call(), second)

    def test_lists_of_several_objects(self):
        s = Sender(A)
        s.send((1,))
        t = s.twin()
        found = [s.payloads, t.payloads, s.payloads, Line(A).payloads, Line(A).answers, Receiver(A).answers]
        self.assertEqual(len({id(one) for one in found}), len(found))

    def test_a_list_that_is_changed_after_the_call(self):
        f, payloads = Framing(A), [(1,), ()]
        bits = f(payloads)
        payloads.append((0,))
        self.assertEqual(payloads, [(1,), (), (0,)])
        self.assertEqual(bits, rules.stream(A, [(1,), ()]))

    def test_by_name(self):
        self.assertEqual(Framing(rule=A).rule, A)
        self.assertEqual(Framing(A)(payloads=[()]), rules.stream(A, [()]))
        self.assertEqual(Framing(B).silent(kind="flip"), damage.silent(B, "flip"))
        self.assertEqual(Framing(B).received(bits=BITS), receiving.answers(B, BITS))
        self.assertEqual(Sender(rule=A).send(payload=(1,)), rules.stream(A, [(1,)]))
        self.assertEqual(Receiver(rule=A).take(bits=rules.stream(A, [(1,)])), [(1,)])
        for line in (Line, StrictLine, CappedLine, StrictCappedLine):
            x = line(rule=A)
            self.assertIsNone(x.spoil(change=("flip", 90)))
            self.assertEqual(x.send(payload=(1,)), [(1,)])
            self.assertIs(line.is_valid(value=A), True)
            self.assertEqual(line.read(text="flag 1; check 1").rule, ((1,), (), 1))
        for line in (CappedLine, StrictCappedLine):
            self.assertEqual(line(most=7, rule=A).most, 7)

    def test_kinds_of_answers(self):
        f, s, r, x = Framing(B), Sender(A), Receiver(A), CappedLine(A, 400)
        s.send((1,)), r.take(s.bits), x.send((1,)), x.spoil(("flip", 3))
        for value, kind in (
            (bool(f), bool), (f == f, bool), ((1,) in f, bool), (f[()], tuple), (f([]), tuple), (len(f), int),
            (s.bits, tuple), (s.payloads, list), (s == s, bool), (len(s), int), (s.undo(), tuple), (r.bits, tuple),
            (r.answers, list), (r.loose, tuple), (r == r, bool), (r.undo(), tuple), (x.sent, tuple), (x.came, tuple),
            (x.waiting, tuple), (x.most, int), (len(x), int), (x.tell(), list), (x.tell()[0], str), (Line.KINDS, int),
            (Line.is_valid(A), bool), (texts.show_word(()), str), (texts.parse_payloads("none"), list),
        ):
            self.assertIs(type(value), kind)


class TestErrorsInOrder(Raises):
    NO_RULE = ((0, 1), (), True)

    def test_the_rule_comes_first(self):
        for call in (rules.letter, rules.frame, receiving.borders, receiving.answers, receiving.loose):
            self.assert_raises_just(InvalidRule, call, self.NO_RULE, None)
            self.assert_raises_just(InvalidBits, call, A, [0, 1])
        self.assert_raises_just(InvalidRule, receiving.is_stream, self.NO_RULE, None)
        self.assert_raises_just(InvalidBits, receiving.is_stream, A, None)
        self.assert_raises_just(InvalidRule, rules.stream, self.NO_RULE, None)
        self.assert_raises_just(InvalidPayloads, rules.stream, A, None)
        self.assert_raises_just(InvalidPayloads, rules.stream, A, [[0, 1]])
        self.assert_raises_just(InvalidRule, clean.is_clean_table, self.NO_RULE, None)
        self.assert_raises_just(InvalidRule, clean.clean_table, self.NO_RULE)
        self.assert_raises_just(NotClean, clean.clean_table, C)

    def test_the_errors_of_each_function(self):
        no = self.NO_RULE
        for error, call, values in (
            (InvalidRule, shares.most_put, (no, -1)), (InvalidLength, shares.most_put, (B, -1)),
            (InvalidRule, shares.is_share_table, (no, (2, 2), [])),
            (InvalidFraction, shares.is_share_table, (B, (2, 2), [])),
            (InvalidRule, lists.parting, (A, no)), (InvalidRule, lists.alike, (no, B)),
            (InvalidRule, lists.count_lists, (no, True)), (InvalidLength, lists.count_lists, (B, True)),
            (InvalidRule, lists.nth_list, (no, -1, -1)), (InvalidLength, lists.nth_list, (B, -1, -1)),
            (InvalidIndex, lists.nth_list, (B, 9, 5)), (InvalidRule, lists.list_index, (no, None)),
            (InvalidPayloads, lists.list_index, (B, None)), (InvalidBits, damage.changed, ([0], None)),
            (InvalidChange, damage.changed, ((0,), None)), (InvalidRule, damage.harm, (no, None, None)),
            (InvalidPayloads, damage.harm, (C, None, None)), (InvalidChange, damage.harm, (C, [], None)),
            (NotClean, damage.harm, (C, [], ("flip", 0))), (InvalidRule, damage.silent, (no, None)),
            (InvalidKind, damage.silent, (C, None)), (NotClean, damage.silent, (C, "flip")),
            (InvalidRule, damage.spread, (no, None)), (InvalidKind, damage.spread, (C, None)),
            (NotClean, damage.spread, (C, "flip")), (InvalidRule, damage.distance, (no,)),
            (NotClean, damage.distance, (C,)), (InvalidRule, damage.nearest, (no,)), (NotClean, damage.nearest, (C,)),
            (InvalidFlag, finding.clean_words, ((),)), (InvalidFlag, finding.best_rules, ([1],)),
            (InvalidBits, texts.show_word, ([0],)), (InvalidRule, texts.show_rule, (no,)),
            (InvalidPayloads, texts.show_payloads, (((0,),),)), (InvalidText, texts.parse_word, ("",)),
            (InvalidText, texts.parse_rule, (A,)), (InvalidText, texts.parse_payloads, ([],)),
        ):
            self.assert_raises_just(error, call, *values)

    def test_the_errors_of_objects(self):
        no, f = self.NO_RULE, Framing(C)
        for error, call, values in (
            (InvalidRule, Framing, (no,)), (InvalidRule, Sender, (no,)), (InvalidRule, Receiver, (no,)),
            (InvalidRule, Line, (no,)), (InvalidRule, StrictLine, (no,)), (InvalidRule, CappedLine, (no, True)),
            (InvalidRule, StrictCappedLine, (no, True)), (InvalidNumber, CappedLine, (A, True)),
            (InvalidNumber, StrictCappedLine, (A, False)), (InvalidBits, lambda: f[(True,)], ()),
            (InvalidPayloads, f, ([(True,)],)), (InvalidInsert, lambda: f + ((True,), 1), ()),
            (InvalidInsert, lambda: f + ((0,), True), ()), (InvalidInsert, lambda: f - (True, False, True), ()),
            (InvalidCheck, lambda: f * True, ()), (InvalidKind, f.silent, (True,)), (NotClean, f.silent, ("flip",)),
            (NotClean, f.distance, ()), (InvalidBits, f.received, ((True,),)),
            (InvalidBits, Sender(A).send, ((True,),)),
            (InvalidBits, Receiver(A).take, ((False,),)), (InvalidBits, Line(A).send, ((True,),)),
            (InvalidChange, Line(A).spoil, (("flip", True),)), (InvalidChange, Line(A).spoil, (("add", 0, True),)),
        ):
            self.assert_raises_just(error, call, *values)

    def test_names_do_not_change_the_order(self):
        with self.assertRaises(InvalidRule):
            damage.harm(change=None, payloads=None, rule=self.NO_RULE)
        with self.assertRaises(InvalidLength):
            lists.nth_list(index=None, length=None, rule=B)
        with self.assertRaises(InvalidRule):
            rules.letter(payload=None, rule=self.NO_RULE)
        with self.assertRaises(InvalidRule):
            rules.stream(payloads=None, rule=self.NO_RULE)
        with self.assertRaises(InvalidRule):
            receiving.is_stream(bits=None, rule=self.NO_RULE)

    def test_true_and_false_are_no_integers(self):
        self.assertIs(rules.is_word((True, False)), False)
        self.assertIs(rules.is_rule(((False, True), (), 1)), False)
        self.assertIs(rules.is_rule(((0, 1), (((1,), False),), 1)), False)
        self.assert_raises_just(InvalidBits, rules.letter, A, (True,))
        self.assert_raises_just(InvalidPayloads, rules.stream, A, [(False,)])
        self.assert_raises_just(InvalidBits, receiving.borders, A, (0, True, 1, 0))


if __name__ == "__main__":
    unittest.main()
