"""Lines: promises [30], [31] and [32]."""

import random
import unittest

import plain
from checks import Raises
from onlyflags.damage import changed
from onlyflags.errors import (
    InvalidBits, InvalidChange, InvalidNumber, InvalidRule, InvalidText, NothingToUndo, Spoilt, TooLong, Waiting,
)
from onlyflags.lines import CappedLine, Line, StrictCappedLine, StrictLine
from onlyflags.receiving import answers
from onlyflags.rules import is_rule, is_word, stream
from onlyflags.texts import show_rule
from plain import A, B, C, NO_RULES, NO_WORDS

TWO_ONES = ((1, 1), (((1,), 0),), 1)
CLASSES = (Line, StrictLine, CappedLine, StrictCappedLine)
TEXT_A = "flag 0110; 1 puts 0; check 2"

CHANGES = [
    ("flip", 0), ("flip", 7), ("flip", 999999), ("lose", 0), ("lose", 3), ("add", 0, 0), ("add", 0, 1), ("add", 400, 1),
]

NO_CHANGES = [
    None, 0, True, "", "flip", (), ("flip",), ["flip", 0], ("flip", -1), ("flip", True), ("flip", None), ("flip", 0.0),
    ("flip", "0"), ("flip", 0, 0), ("flip", 0, 1), ("lose",), ("lose", -1), ("lose", False), ("lose", 0, 0), ("add", 0),
    ("add", 0, 2), ("add", 0, True), ("add", 0, None), ("add", -1, 0), ("add", True, 0), ("add", 0, 0, 0),
    ("add", 0, (1,)), ("Flip", 0), ("swap", 0), (0, "flip"), (0, 0), (None, 0), (("flip",), 0), ("flip", (0,)), {},
    {"flip": 0}, object(), plain.IntLike(), (plain.IntLike(), 0), ("flip", plain.IntLike()), b"flip", (b"flip", 0), int,
]

NO_NUMBERS = [-1, -40, True, False, None, 40.0, "40", "", (40,), [40], {}, object(), plain.IntLike(), int]


def snapshot(x):
    """All that can be seen of a line."""
    told = [type(x), x.rule, x.payloads, x.sent, x.came, x.answers, x.waiting, len(x), x.tell()]
    return told + ([x.most] if isinstance(x, CappedLine) else [])


class TestSend(Raises):
    def test_ahead_of_the_first_call(self):
        for line in CLASSES:
            x = line(A)
            self.assertEqual(snapshot(x)[1:8], [A, [], (), (), [], None, 0])
            self.assert_raises_just(NothingToUndo, x.undo)

    def test_without_changes_the_answers_are_what_was_sent(self):
        for rule in (A, B, TWO_ONES, ((0, 0), (((0,), 1),), 3)):
            for payloads in plain.lists_by_signs(4):
                for line in (Line(rule), StrictLine(rule), CappedLine(rule, 400), StrictCappedLine(rule, 400)):
                    for payload in payloads:
                        self.assertEqual(line.send(payload), [payload])
                    self.assertEqual((line.payloads, line.answers, len(line)), (payloads, payloads, len(payloads)))
                    self.assertEqual(line.sent, stream(rule, payloads) if payloads else ())
                    self.assertEqual(line.came, line.sent)

    def test_a_rule_that_is_not_clean(self):
        x = Line(C)
        self.assertEqual(x.send(()), answers(C, stream(C, [()])))
        self.assertEqual(x.send((1, 0)), answers(C, stream(C, [(), (1, 0)]))[len(answers(C, stream(C, [()]))):])
        self.assertEqual(x.came, stream(C, [(), (1, 0)]))

    def test_wrong_payloads(self):
        for line in CLASSES:
            x = line(A)
            x.send((1,))
            x.spoil(("flip", 3))
            before = snapshot(x)
            for value in NO_WORDS:
                self.assert_raises_just(InvalidBits, x.send, value)
                self.assertEqual(snapshot(x), before)
            self.assertEqual([x.undo(), x.undo()], [("flip", 3), (1,)])
            self.assert_raises_just(NothingToUndo, x.undo)

    def test_wrong_rules(self):
        for line in CLASSES:
            for value in NO_RULES:
                self.assert_raises_just(InvalidRule, line, value)


class TestSpoil(Raises):
    def test_it_returns_none(self):
        for change in CHANGES:
            x = Line(A)
            self.assertIsNone(x.spoil(change))
            self.assertEqual(x.waiting, change)
            self.assertEqual((x.sent, x.came, len(x)), ((), (), 0))

    def test_within_the_bits_of_the_next_call(self):
        for rule in (A, B, TWO_ONES):
            size = len(stream(rule, [(0, 1)]))
            for at in range(size):
                for change in (("flip", at), ("lose", at), ("add", at, 0), ("add", at, 1)):
                    x = Line(rule)
                    x.spoil(change)
                    told = x.send((0, 1))
                    self.assertIsNone(x.waiting)
                    self.assertEqual(x.sent, stream(rule, [(0, 1)]))
                    self.assertEqual(x.came, changed(x.sent, change))
                    self.assertEqual(told, answers(rule, x.came))

    def test_behind_the_first_call(self):
        # The index counts the bits that go out behind the call of spoil, so the first flag is not among them.
        for at in range(5):
            for change, moved in (
                (("flip", at), ("flip", at + 9)),
                (("lose", at), ("lose", at + 9)),
                (("add", at, 1), ("add", at + 9, 1)),
            ):
                x = Line(A)
                x.send(())
                x.spoil(change)
                x.send((1, 0))
                self.assertEqual(x.came, changed(x.sent, moved))

    def test_beyond_the_next_calls(self):
        for change, at in ((("flip", 20), 20), (("lose", 20), 20), (("add", 20, 1), 20)):
            x = Line(A)
            x.spoil(change)
            seen = []
            for _ in range(4):
                x.send(())
                seen.append(x.waiting)
            # Nine bits go out by the first call, five by each later one: put bits, check and flag.
            self.assertEqual(seen, [*[(change[0], left, *change[2:]) for left in (11, 6, 1)], None])
            self.assertEqual(x.came, changed(x.sent, (change[0], at, *change[2:])))

    def test_an_index_just_behind_a_call(self):
        for change in (("flip", 9), ("lose", 9), ("add", 9, 1)):
            x = Line(A)
            x.spoil(change)
            self.assertEqual(x.send(()), [()])
            self.assertEqual(x.came, x.sent)
            self.assertEqual(x.waiting, (change[0], 0, *change[2:]))
            x.send((0,))
            self.assertIsNone(x.waiting)
            self.assertEqual(x.came, changed(x.sent, change))

    def test_one_at_a_time(self):
        for change in CHANGES:
            x = Line(A)
            x.spoil(("flip", 11))
            self.assert_raises_just(Waiting, x.spoil, change)
            self.assertEqual(x.waiting, ("flip", 11))
            x.send(())
            self.assert_raises_just(Waiting, x.spoil, change)
            self.assertEqual(x.waiting, ("flip", 2))
            x.send(())
            self.assertIsNone(x.spoil(change))
            self.assertEqual(x.waiting, change)

    def test_no_changes(self):
        for line in CLASSES:
            x = line(A)
            for value in NO_CHANGES:
                self.assert_raises_just(InvalidChange, x.spoil, value)
                self.assertIsNone(x.waiting)
            x.spoil(("flip", 50))
            for value in NO_CHANGES:
                # What is no change is told ahead of that one waits.
                self.assert_raises_just(InvalidChange, x.spoil, value)
                self.assertEqual(x.waiting, ("flip", 50))
            self.assertEqual(x.undo(), ("flip", 50))
            self.assert_raises_just(NothingToUndo, x.undo)

    def test_several_changes_of_one_line(self):
        x = Line(B)
        for change in (("flip", 3), ("add", 0, 1), ("lose", 2)):
            x.spoil(change)
            x.send((1,))
        sent = stream(B, [(1,)] * 3)
        self.assertEqual(x.sent, sent)
        self.assertEqual(len(sent), 15)
        self.assertEqual(x.came, changed(changed(changed(sent, ("lose", 13)), ("add", 7, 1)), ("flip", 3)))


class TestUndo(Raises):
    def test_send(self):
        x = Line(A)
        x.send((1,))
        x.send(())
        self.assertEqual(x.undo(), ())
        y = Line(A)
        y.send((1,))
        self.assertEqual(snapshot(x), snapshot(y))
        self.assertEqual(x.undo(), (1,))
        self.assertEqual(snapshot(x), snapshot(Line(A)))
        self.assertEqual(x.send((1,)), [(1,)])
        self.assertEqual(snapshot(x), snapshot(y))

    def test_spoil(self):
        x = Line(A)
        x.spoil(("lose", 2))
        self.assertEqual(x.undo(), ("lose", 2))
        self.assertEqual(snapshot(x), snapshot(Line(A)))
        self.assertEqual(x.send(()), [()])

    def test_a_call_by_which_a_change_took_effect(self):
        for change in (("flip", 11), ("lose", 11), ("add", 11, 0)):
            x = Line(A)
            x.spoil(change)
            x.send(())
            before = snapshot(x)
            x.send((0,))
            after = snapshot(x)
            self.assertIsNone(x.waiting)
            self.assertEqual(x.undo(), (0,))
            self.assertEqual(snapshot(x), before)
            self.assertEqual(x.waiting, (change[0], 2, *change[2:]))
            x.send((0,))
            self.assertEqual(snapshot(x), after)
            self.assertEqual([x.undo(), x.undo()], [(0,), ()])
            self.assertEqual(x.waiting, change)
            self.assertEqual(x.undo(), change)
            self.assertIsNone(x.waiting)
            self.assert_raises_just(NothingToUndo, x.undo)

    def test_nothing_to_undo_changes_nothing(self):
        x = Line(A)
        x.send(())
        x.undo()
        for _ in range(2):
            self.assert_raises_just(NothingToUndo, x.undo)
            self.assertEqual(snapshot(x), snapshot(Line(A)))


class PlainLine:
    """Plays a list of calls anew each time, with indexes among all bits that go out."""

    def __init__(self, rule):
        self.rule, self.calls = rule, []

    def told(self):
        payloads, changes = [], []
        for kind, value in self.calls:
            sent = plain.stream_of(self.rule, payloads) if payloads else ()
            if kind == "send":
                payloads.append(value)
            else:
                changes.append((value[0], value[1] + len(sent), *value[2:]))
        sent = plain.stream_of(self.rule, payloads) if payloads else ()
        made = [change for change in changes if change[1] < len(sent)]
        late = [change for change in changes if change[1] >= len(sent)]
        came = sent
        for change in reversed(made):
            came = changed(came, change)
        waiting = (late[0][0], late[0][1] - len(sent), *late[0][2:]) if late else None
        return payloads, sent, came, waiting


class TestAgainstThePlainReading(Raises):
    def test_rows_of_calls(self):
        source = random.Random(12)
        errors = {NothingToUndo: 0, Waiting: 0, Spoilt: 0, TooLong: 0}
        for turn in range(160):
            rule = source.choice((A, B, C, TWO_ONES, ((0, 1, 0), (), 1), ((0, 0), (((0,), 1),), 3)))
            line, most = CLASSES[turn % 4], source.choice((0, 20, 40, 90))
            x = line(rule, most) if issubclass(line, CappedLine) else line(rule)
            y = PlainLine(rule)
            for _ in range(25):
                self.play(source, x, y, most, errors)
                payloads, sent, came, waiting = y.told()
                self.assertEqual((x.payloads, x.sent, x.came, x.waiting), (payloads, sent, came, waiting))
                self.assertEqual((x.answers, len(x)), (answers(rule, came), len(payloads)))
        self.assertTrue(all(many > 20 for many in errors.values()), errors)

    def play(self, source, x, y, most, errors):
        """One call of both, and the error that it has to raise."""
        act = source.choice(("send", "send", "spoil", "undo"))
        if act == "undo":
            if y.calls:
                self.assertEqual(x.undo(), y.calls.pop()[1])
            else:
                self.refuse(errors, NothingToUndo, x.undo)
        elif act == "spoil":
            kind, at = source.choice(("flip", "lose", "add")), source.choice((0, 1, 2, 5, 9, 12, 30))
            change = (kind, at, source.choice((0, 1))) if kind == "add" else (kind, at)
            if y.told()[3] is None:
                x.spoil(change)
                y.calls.append(("spoil", change))
            else:
                self.refuse(errors, Waiting, x.spoil, change)
        else:
            self.play_send(x, y, tuple(source.choice((0, 1)) for _ in range(source.choice((0, 1, 2, 5)))), most, errors)

    def play_send(self, x, y, payload, most, errors):
        before = answers(x.rule, y.told()[2])
        y.calls.append(("send", payload))
        _, sent, came, _ = y.told()
        new = answers(x.rule, came)[len(before):]
        if isinstance(x, CappedLine) and len(sent) > most:
            y.calls.pop()
            self.refuse(errors, TooLong, x.send, payload)
        elif isinstance(x, StrictLine) and not all(is_word(answer) for answer in new):
            y.calls.pop()
            self.refuse(errors, Spoilt, x.send, payload)
        else:
            self.assertEqual(x.send(payload), new)

    def refuse(self, errors, error, call, *values):
        self.assert_raises_just(error, call, *values)
        errors[error] += 1


class TestTell(Raises):
    def test_nothing_sent(self):
        self.assertEqual(Line(A).tell(), [TEXT_A, "sent none"])
        self.assertEqual(Line(B).tell(), ["flag 101; 10 puts 0; check 1", "sent none"])

    def test_answers_of_every_kind(self):
        seen = set()
        for payload in plain.words(0, 4):
            for at in range(12):
                for change in (("flip", at), ("lose", at), ("add", at, 0), ("add", at, 1)):
                    x = Line(A)
                    x.spoil(change)
                    x.send(payload)
                    x.send(())
                    told = ["payload " + ("".join(map(str, one)) or "-") if is_word(one) else one for one in x.answers]
                    sent = ("".join(map(str, payload)) or "-") + " -"
                    self.assertEqual(x.tell(), [TEXT_A, "sent " + sent, *told])
                    seen.update(told)
        self.assertTrue({"overlap", "bit", "short", "check", "payload -", "payload 01"} <= seen, seen)

    def test_strict_and_most(self):
        self.assertEqual(StrictLine(A).tell(), [TEXT_A, "sent none", "strict"])
        self.assertEqual(CappedLine(A).tell(), [TEXT_A, "sent none", "most 40"])
        self.assertEqual(CappedLine(A, 0).tell(), [TEXT_A, "sent none", "most 0"])
        self.assertEqual(StrictCappedLine(A, 12).tell(), [TEXT_A, "sent none", "strict", "most 12"])
        x = StrictCappedLine(A)
        x.send((1, 0))
        x.send(())
        told = [TEXT_A, "sent 10 -", "payload 10", "payload -", "strict", "most 40"]
        self.assertEqual(x.tell(), told)
        y = CappedLine(A)
        y.spoil(("flip", 9))
        y.send(())
        y.send((0,))
        self.assertEqual(y.tell(), [TEXT_A, "sent - 0", "payload -", "check", "most 40"])

    def test_new_lists(self):
        for line in CLASSES:
            x = line(A)
            told, payloads, found = x.send((1,)), x.payloads, x.answers
            before = snapshot(x)
            for one in (told, payloads, found, x.tell()):
                one.append("changed")
            self.assertEqual(snapshot(x), before)
            self.assertIsNot(x.tell(), x.tell())
            self.assertIsNot(x.payloads, x.payloads)
            self.assertIsNot(x.answers, x.answers)
            self.assertEqual(x.undo(), (1,))


class TestClasses(Raises):
    def test_which_is_a_subclass_of_which(self):
        below = {
            (StrictLine, Line), (CappedLine, Line), (StrictCappedLine, Line), (StrictCappedLine, StrictLine),
            (StrictCappedLine, CappedLine),
        }
        for one in CLASSES:
            for other in CLASSES:
                self.assertIs(issubclass(one, other), one is other or (one, other) in below)

    def test_kinds(self):
        for line in CLASSES:
            self.assertEqual((line.KINDS, line(A).KINDS), (3, 3))
            self.assertIs(type(line.KINDS), int)

    def test_is_valid(self):
        for line in CLASSES:
            for value in [*NO_RULES, Line, Line(A), TEXT_A]:
                self.assertIs(line.is_valid(value), False)
                self.assertIs(line(A).is_valid(value), False)
            for rule in [A, B, C, ((0,), (), 1)]:
                self.assertIs(line.is_valid(rule), True)
                self.assertIs(line(A).is_valid(value=rule), is_rule(rule))

    def test_read(self):
        for line in CLASSES:
            for rule in (A, B, C, ((0,), (), 999999)):
                x = line.read(show_rule(rule))
                self.assertIs(type(x), line)
                self.assertEqual(snapshot(x), snapshot(line(rule)))
            self.assertEqual(line.read(text=TEXT_A).send((1,)), [(1,)])
            self.assertEqual(line(B).read(TEXT_A).rule, A)
            self.assertIsNot(line.read(TEXT_A), line.read(TEXT_A))
            for value in ("", " " + TEXT_A, TEXT_A + " ", "flag 0110", "none", "0110", None, 0, A, [TEXT_A], object()):
                self.assert_raises_just(InvalidText, line.read, value)

    def test_properties_are_not_set(self):
        for name in ("rule", "payloads", "sent", "came", "answers", "waiting"):
            with self.assertRaises(AttributeError):
                setattr(Line(A), name, ())
        with self.assertRaises(AttributeError):
            CappedLine(A).most = 3


class TestStrict(Raises):
    def test_refused(self):
        for line in (StrictLine(A), StrictCappedLine(A, 400)):
            line.send(())
            line.spoil(("flip", 0))
            before = snapshot(line)
            for _ in range(2):
                self.assert_raises_just(Spoilt, line.send, (0,))
                self.assertEqual(snapshot(line), before)
                self.assertEqual(line.waiting, ("flip", 0))
            self.assertEqual([line.undo(), line.undo()], [("flip", 0), ()])
            self.assert_raises_just(NothingToUndo, line.undo)

    def test_refused_just_where_a_line_answers_no_payload(self):
        refused = set()
        for at in range(14):
            for change in (("flip", at), ("lose", at), ("add", at, 0), ("add", at, 1)):
                for payload in plain.words(0, 3):
                    x, y = Line(A), StrictLine(A)
                    x.spoil(change)
                    y.spoil(change)
                    told = x.send(payload)
                    if all(is_word(one) for one in told):
                        self.assertEqual(y.send(payload), told)
                        self.assertEqual(snapshot(y)[1:8], snapshot(x)[1:8])
                    else:
                        refused.update(one for one in told if not is_word(one))
                        self.assert_raises_just(Spoilt, y.send, payload)
                        self.assertEqual((y.waiting, len(y), y.came), (change, 0, ()))
        self.assertEqual(refused, {"overlap", "bit", "short", "check"})

    def test_the_first_flag_that_comes_is_not_strict(self):
        # A lost flag brings no answer; the stream goes on behind the next one.
        x = StrictLine(A)
        x.spoil(("lose", 0))
        self.assertEqual(x.send((1,)), [])
        self.assertEqual(x.send((0,)), [(0,)])

    def test_an_answer_of_another_payload_is_let_through(self):
        x = StrictLine(B)
        x.spoil(("flip", 3))
        self.assertEqual(x.send((0, 0)), [(1, 0)])
        self.assertEqual((x.payloads, x.answers), ([(0, 0)], [(1, 0)]))

    def test_another_payload_may_go_behind_a_refused_one(self):
        x = StrictLine(A)
        x.send(())
        x.spoil(("flip", 5))
        self.assert_raises_just(Spoilt, x.send, (0, 1, 1))
        self.assertEqual(x.send(()), [()])
        self.assertEqual(x.waiting, ("flip", 0))
        self.assertEqual(x.undo(), ())
        self.assertEqual(x.waiting, ("flip", 5))

    def test_it_may_refuse_a_rule_that_is_not_clean(self):
        x = StrictLine(C)
        told = answers(C, stream(C, [()]))
        self.assertFalse(all(is_word(one) for one in told))
        self.assert_raises_just(Spoilt, x.send, ())
        self.assertEqual(x.sent, ())


class TestCapped(Raises):
    def test_just_reached_and_one_too_few(self):
        for line in (CappedLine, StrictCappedLine):
            for rule in (A, B, TWO_ONES):
                for payloads in plain.lists_by_signs(4):
                    size = len(stream(rule, payloads))
                    if not payloads:
                        continue
                    x, y = line(rule, size), line(rule, size - 1)
                    for payload in payloads[:-1]:
                        self.assertEqual(x.send(payload), y.send(payload))
                    self.assertEqual(x.send(payloads[-1]), [payloads[-1]])
                    before = snapshot(y)
                    self.assert_raises_just(TooLong, y.send, payloads[-1])
                    self.assertEqual(snapshot(y), before)
                    self.assertEqual((x.most, y.most), (size, size - 1))

    def test_most_0(self):
        for line in (CappedLine, StrictCappedLine):
            x = line(((1,), (), 1), 0)
            self.assertEqual(x.most, 0)
            self.assert_raises_just(TooLong, x.send, ())
            self.assertEqual(snapshot(x)[2:8], [[], (), (), [], None, 0])
            self.assert_raises_just(NothingToUndo, x.undo)

    def test_the_default(self):
        for line in (CappedLine, StrictCappedLine):
            read = line.read("flag 11; 1 puts 0; check 1")
            for x in (line(TWO_ONES), line(rule=TWO_ONES), read, line(TWO_ONES, most=40)):
                self.assertEqual(x.most, 40)
                # 2 bits of the flag, 1 put in, 35 zeros, 2 bits of the flag.
                self.assert_raises_just(TooLong, x.send, (0,) * 36)
                self.assertEqual(x.send((0,) * 35), [(0,) * 35])
                self.assertEqual(len(x.sent), 40)
                self.assert_raises_just(TooLong, x.send, ())
                x.undo()
                self.assertEqual(x.send(()), [()])

    def test_what_goes_out_counts_and_not_what_comes(self):
        x = CappedLine(A, 9)
        x.spoil(("add", 3, 1))
        x.send(())
        self.assertEqual((len(x.sent), len(x.came)), (9, 10))
        y = CappedLine(A, 8)
        y.spoil(("lose", 3))
        before = snapshot(y)
        self.assert_raises_just(TooLong, y.send, ())
        self.assertEqual(snapshot(y), before)
        self.assertEqual(y.undo(), ("lose", 3))

    def test_no_numbers(self):
        for line in (CappedLine, StrictCappedLine):
            for value in NO_NUMBERS:
                self.assert_raises_just(InvalidNumber, line, A, value)
            for value in NO_RULES:
                self.assert_raises_just(InvalidRule, line, value, -1)
            with self.assertRaises(InvalidRule):
                line(most=None, rule=None)
            with self.assertRaises(InvalidNumber):
                line(most=None, rule=A)

    def test_the_order_of_errors(self):
        x = StrictCappedLine(A, 14)
        x.send(())
        x.spoil(("flip", 0))
        before = snapshot(x)
        # (1,) would be too long and spoilt, () only spoilt.
        for value, error in (((1, 2), InvalidBits), ((1,), TooLong), ((), Spoilt), (None, InvalidBits)):
            self.assert_raises_just(error, x.send, value)
            self.assertEqual(snapshot(x), before)
        self.assertEqual(x.undo(), ("flip", 0))
        self.assertEqual(x.send(()), [()])
        self.assertEqual([x.undo(), x.undo()], [(), ()])
        self.assert_raises_just(NothingToUndo, x.undo)


class TestLimits(Raises):
    def test_sixty_calls(self):
        rule = (plain.many_bits(16, 7), (((1, 1, 1), 0),), 16)
        for x in (Line(rule), CappedLine(rule, 10 ** 6)):
            before, payloads = [], [plain.many_bits(400, step) for step in range(30)]
            for payload in payloads:
                before.append((x.payloads, x.sent, x.came, x.answers, x.waiting))
                x.spoil(("flip", 399))
                x.send(payload)
                self.assertIsNone(x.waiting)
            self.assertEqual(x.sent, stream(rule, payloads))
            self.assertEqual(sum(one != other for one, other in zip(x.sent, x.came)), 30)
            self.assertEqual(x.answers, answers(rule, x.came))
            for payload in payloads[::-1]:
                self.assertEqual([x.undo(), x.undo()], [payload, ("flip", 399)])
                self.assertEqual((x.payloads, x.sent, x.came, x.answers, x.waiting), before.pop())


if __name__ == "__main__":
    unittest.main()
