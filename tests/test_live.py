"""Senders and receivers: promises [28] and [29]."""

import unittest

import plain
from checks import Raises
from onlyflags.errors import InvalidBits, InvalidIndex, InvalidRule, NothingToUndo
from onlyflags.live import Receiver, Sender
from onlyflags.objects import Framing
from onlyflags.receiving import answers, loose
from onlyflags.rules import stream
from plain import A, B, C, NO_RULES, NO_WORDS, many_bits

# Something is put in behind the flag itself.
TWO_ONES = ((1, 1), (((1,), 0),), 1)
OVERLAPS = ((0, 1, 0), (), 1)
CHECKED = ((0, 0), (((0,), 1),), 3)
RULES = (A, B, C, TWO_ONES, OVERLAPS, CHECKED, ((1,), (), 1))

NO_INDEXES = [-1, -2, True, False, None, 0.0, 1.0, "0", "", (0,), [0], {}, object(), plain.IntLike(), int, slice(0, 1)]


def snapshot_of_sender(s):
    return [s.rule, s.payloads, s.bits, len(s)]


def snapshot_of_receiver(r):
    return [r.rule, r.bits, r.answers, r.loose, len(r), [r[index] for index in range(len(r))]]


class TestSender(Raises):
    def test_ahead_of_the_first_call(self):
        s = Sender(A)
        self.assertEqual(snapshot_of_sender(s), [A, [], (), 0])
        self.assert_raises_just(NothingToUndo, s.undo)
        self.assertEqual(snapshot_of_sender(s), [A, [], (), 0])

    def test_the_flag_goes_out_by_the_first_call_alone(self):
        s = Sender(TWO_ONES)
        self.assertEqual(s.send(()), (1, 1, 0, 1, 1))
        # What is put in behind the last flag goes out with the next payload.
        self.assertEqual(s.send(()), (0, 1, 1))
        self.assertEqual(s.send((1, 0)), (0, 1, 0, 0, 1, 1))
        self.assertEqual(s.bits, (1, 1, 0, 1, 1, 0, 1, 1, 0, 1, 0, 0, 1, 1))
        self.assertEqual(Sender(A).send((1,)), (0, 1, 1, 0, 1, 0, 1, 0, 0, 1, 1, 0))

    def test_all_that_went_out_is_the_stream(self):
        for rule in RULES:
            for payloads in plain.lists_by_signs(5):
                s, bits = Sender(rule), ()
                for at, payload in enumerate(payloads):
                    bits = bits + s.send(payload)
                    self.assertEqual(snapshot_of_sender(s), [rule, payloads[:at + 1], bits, at + 1])
                    self.assertEqual(bits, plain.stream_of(rule, payloads[:at + 1]))

    def test_undo_back_to_nothing_and_once_more(self):
        for rule in RULES:
            s = Sender(rule)
            payloads = [(), (1,), (0, 1), (), (1, 1, 1)]
            out = [s.send(payload) for payload in payloads]
            for size in reversed(range(5)):
                self.assertEqual(s.undo(), payloads[size])
                bits = stream(rule, payloads[:size]) if size else ()
                self.assertEqual(snapshot_of_sender(s), [rule, payloads[:size], bits, size])
            for _ in range(2):
                self.assert_raises_just(NothingToUndo, s.undo)
            # The flag goes out once more.
            self.assertEqual([s.send(payload) for payload in payloads], out)

    def test_the_next_call_behind_an_undo(self):
        s = Sender(A)
        s.send((1,))
        s.send((1, 1))
        s.undo()
        self.assertEqual(s.send((0,)), (0, 0, 0, 1, 1, 0))
        self.assertEqual(s.bits, stream(A, [(1,), (0,)]))
        self.assertEqual([s.undo(), s.undo()], [(0,), (1,)])

    def test_wrong_payloads(self):
        s = Sender(B)
        for ahead in ([], [(1, 0)]):
            s = Sender(B)
            for payload in ahead:
                s.send(payload)
            before = snapshot_of_sender(s)
            for value in [*NO_WORDS, [(1,)], [1, 0]]:
                self.assert_raises_just(InvalidBits, s.send, value)
                self.assertEqual(snapshot_of_sender(s), before)
        self.assertEqual(s.undo(), (1, 0))

    def test_wrong_rules(self):
        for value in NO_RULES:
            self.assert_raises_just(InvalidRule, Sender, value)

    def test_equal(self):
        s, t = Sender(A), Sender(A)
        self.assertIs(s == t, True)
        self.assertIs(s != t, False)
        s.send((1,))
        self.assertIs(s == t, False)
        self.assertIs(s != t, True)
        t.send((1,))
        self.assertIs(s == t, True)
        t.send(())
        t.undo()
        self.assertIs(s == t, True)
        t.undo()
        t.send((0,))
        self.assertIs(s == t, False)

    def test_rules_that_are_only_alike_are_not_equal(self):
        other = (B[0], (((1, 0), 0), ((1, 0, 0), 1)), 1)
        self.assertIs(Framing(B) == Framing(other), True)
        self.assertIs(Sender(B) == Sender(other), False)
        self.assertIs(Sender(A) == Sender(B), False)

    def test_equal_to_nothing_else(self):
        s = Sender(A)
        for other in (A, None, [], (), 0, "", Receiver(A), Framing(A), object(), Sender):
            self.assertIs(s == other, False)
            self.assertIs(other == s, False)
            self.assertIs(s != other, True)

    def test_twins_in_both_directions(self):
        s = Sender(A)
        s.send((1,))
        t = s.twin()
        self.assertIs(type(t), Sender)
        self.assertIsNot(s, t)
        self.assertIs(s == t, True)
        s.send((0,))
        self.assertEqual((s.payloads, t.payloads), ([(1,), (0,)], [(1,)]))
        t.send(())
        t.send((1, 1))
        self.assertEqual((s.payloads, t.payloads), ([(1,), (0,)], [(1,), (), (1, 1)]))
        self.assertEqual([t.undo(), t.undo(), t.undo()], [(1, 1), (), (1,)])
        self.assertEqual((s.bits, t.bits), (stream(A, [(1,), (0,)]), ()))
        self.assertEqual([s.undo(), s.undo()], [(0,), (1,)])
        self.assertIs(s == t, True)
        self.assertEqual(Sender(B).twin().payloads, [])

    def test_lists_that_are_changed(self):
        s = Sender(A)
        s.send((1,))
        told = s.payloads
        self.assertIsNot(told, s.payloads)
        told.append((0,))
        self.assertEqual(s.payloads, [(1,)])
        told.clear()
        self.assertEqual((s.payloads, len(s), s.bits), ([(1,)], 1, stream(A, [(1,)])))
        self.assertEqual(s.undo(), (1,))

    def test_properties_are_not_set(self):
        for name in ("rule", "payloads", "bits"):
            with self.assertRaises(AttributeError):
                setattr(Sender(A), name, ())


class TestReceiver(Raises):
    def test_ahead_of_the_first_call(self):
        r = Receiver(A)
        self.assertEqual(snapshot_of_receiver(r), [A, (), [], (0, 0), 0, []])
        self.assert_raises_just(NothingToUndo, r.undo)
        self.assert_raises_just(InvalidIndex, r.__getitem__, 0)

    def test_pieces_of_all_sizes(self):
        for rule in RULES:
            bits = (1, 0) + stream(rule, [(1,), (), (0, 1)]) + (0, 1, 0)
            for size in range(1, len(bits) + 1):
                r, found = Receiver(rule), []
                for at in range(0, len(bits), size):
                    found.extend(r.take(bits[at:at + size]))
                    taken = bits[:at + size]
                    self.assertEqual(found, answers(rule, taken))
                    self.assertEqual(
                        snapshot_of_receiver(r), [rule, taken, found, loose(rule, taken), len(found), found])

    def test_words_of_all_kinds(self):
        for rule in RULES:
            for bits in plain.words(0, 7):
                r = Receiver(rule)
                found = [answer for bit in bits for answer in r.take((bit,))]
                self.assertEqual(found, answers(rule, bits))
                self.assertEqual((r.answers, r.loose, r.bits), (found, loose(rule, bits), bits))

    def test_no_bits(self):
        r = Receiver(A)
        self.assertEqual(r.take(()), [])
        self.assertEqual(r.take(stream(A, [(1,)])), [(1,)])
        before = snapshot_of_receiver(r)
        self.assertEqual(r.take(()), [])
        self.assertEqual(snapshot_of_receiver(r), before)
        self.assertEqual(r.undo(), ())
        self.assertEqual(snapshot_of_receiver(r), before)
        self.assertEqual([r.undo(), r.undo()], [stream(A, [(1,)]), ()])
        self.assert_raises_just(NothingToUndo, r.undo)

    def test_a_flag_in_parts(self):
        r = Receiver(A)
        told = []
        for piece in ((0, 1), (1,), (0, 0, 0), (0,), (1, 1), (0, 1, 1), (0,)):
            told.append((r.take(piece), r.loose))
        self.assertEqual(told[:5], [([], (2, 0)), ([], (3, 0)), ([], (0, 2)), ([], (0, 3)), ([], (0, 5))])
        self.assertEqual(told[5:], [([(0,)], (0, 2)), (["overlap"], (0, 0))])

    def test_flags_that_overlap(self):
        r = Receiver(OVERLAPS)
        self.assertEqual(r.take((0, 1, 0)), [])
        self.assertEqual(r.take((1,)), [])
        self.assertEqual(r.take((0,)), ["overlap"])
        self.assertEqual(r.take((1, 0, 0, 1, 0)), ["overlap", ()])
        self.assertEqual(r.answers, ["overlap", "overlap", ()])

    def test_all_kinds_of_answers(self):
        r = Receiver(A)
        flag = A[0]
        told = [r.take(piece + flag) for piece in ((), (0, 0), (1, 0, 1), (1, 1, 1), (0, 1, 0), (1, 0, 1, 0))]
        self.assertEqual(told, [[], [(0,)], ["short"], ["bit"], ["check"], [(1,)]])
        self.assertEqual(r.take(flag[1:]), ["overlap"])
        self.assertEqual(len(r), 6)

    def test_several_answers_by_one_piece(self):
        r = Receiver(B)
        sent = stream(B, [(1,), (), (0, 0)])
        self.assertEqual(r.take(sent[:-1]), [(1,), ()])
        self.assertEqual(r.take(sent[-1:]), [(0, 0)])

    def test_undo_of_each_call(self):
        for rule in RULES:
            bits = stream(rule, [(0, 1), (), (1,), (1, 1, 1)])
            pieces = [bits[:1], (), bits[1:9], (1, 1, 0), bits[9:], ()]
            r, before = Receiver(rule), []
            for piece in pieces:
                before.append(snapshot_of_receiver(r))
                r.take(piece)
            end = snapshot_of_receiver(r)
            for piece in reversed(pieces):
                self.assertEqual(r.undo(), piece)
                self.assertEqual(snapshot_of_receiver(r), before.pop())
            self.assert_raises_just(NothingToUndo, r.undo)
            for piece in pieces:
                r.take(piece)
            self.assertEqual(snapshot_of_receiver(r), end)

    def test_take_behind_an_undo(self):
        r = Receiver(A)
        r.take(stream(A, [()]))
        self.assertEqual(r.take((1, 1, 1, 0, 1, 1, 0)), ["bit"])
        r.undo()
        self.assertEqual(r.take((0, 0) + A[0]), [(0,)])
        self.assertEqual(r.answers, [(), (0,)])

    def test_indexes(self):
        r = Receiver(B)
        r.take(stream(B, [(1,), (), (0, 0)]))
        self.assertEqual([r[0], r[1], r[2]], [(1,), (), (0, 0)])
        for index in [3, 4, 999, *NO_INDEXES]:
            self.assert_raises_just(InvalidIndex, r.__getitem__, index)
        r.undo()
        for index in (0, 1, -1):
            self.assert_raises_just(InvalidIndex, r.__getitem__, index)

    def test_it_is_not_iterated_over(self):
        with self.assertRaises(TypeError):
            list(Receiver(A))

    def test_wrong_bits(self):
        r = Receiver(A)
        r.take(stream(A, [(1,)]))
        before = snapshot_of_receiver(r)
        for value in [*NO_WORDS, [0, 1, 1, 0]]:
            self.assert_raises_just(InvalidBits, r.take, value)
            self.assertEqual(snapshot_of_receiver(r), before)
        for index in NO_INDEXES:
            self.assert_raises_just(InvalidIndex, r.__getitem__, index)
        self.assertEqual(snapshot_of_receiver(r), before)
        r.undo()
        self.assert_raises_just(NothingToUndo, r.undo)

    def test_wrong_rules(self):
        for value in NO_RULES:
            self.assert_raises_just(InvalidRule, Receiver, value)

    def test_equal(self):
        r, t = Receiver(A), Receiver(A)
        self.assertIs(r == t, True)
        r.take((0, 1, 1))
        self.assertIs(r == t, False)
        self.assertIs(r != t, True)
        # The bits count, not the pieces in which they came.
        t.take((0,))
        t.take((1, 1))
        t.take(())
        self.assertIs(r == t, True)
        self.assertIs(r != t, False)
        t.take((1,))
        self.assertIs(r == t, False)
        self.assertIs(Receiver(A) == Receiver(B), False)
        self.assertIs(Receiver(B) == Receiver((B[0], (((1, 0), 0), ((1, 0, 0), 1)), 1)), False)
        for other in (A, None, [], (), 0, "", Sender(A), Framing(A), object(), Receiver):
            self.assertIs(Receiver(A) == other, False)
            self.assertIs(other == Receiver(A), False)

    def test_twins_with_their_calls(self):
        r = Receiver(A)
        pieces = [(1, 0, 1), (), (1, 0, 0), (0, 0, 1, 1, 0)]
        for piece in pieces:
            r.take(piece)
        t = r.twin()
        self.assertIs(type(t), Receiver)
        self.assertEqual(snapshot_of_receiver(t), snapshot_of_receiver(r))
        before = snapshot_of_receiver(r)
        self.assertEqual([t.undo() for _ in pieces], pieces[::-1])
        self.assert_raises_just(NothingToUndo, t.undo)
        self.assertEqual(snapshot_of_receiver(r), before)
        self.assertEqual(t.take(stream(A, [(1,)])), [(1,)])
        self.assertEqual(snapshot_of_receiver(r), before)
        t = r.twin()
        before = snapshot_of_receiver(t)
        self.assertEqual(r.take((0, 0) + A[0]), [(0,)])
        self.assertEqual(snapshot_of_receiver(t), before)
        self.assertEqual([r.undo() for _ in range(5)], [(0, 0) + A[0], *pieces[::-1]])
        self.assertEqual(snapshot_of_receiver(t), before)

    def test_lists_that_are_changed(self):
        r = Receiver(A)
        told = r.take(stream(A, [(1,), ()]))
        told.append("changed")
        self.assertEqual(r.answers, [(1,), ()])
        found = r.answers
        self.assertIsNot(found, r.answers)
        found.clear()
        self.assertEqual((r.answers, len(r), r[1]), ([(1,), ()], 2, ()))
        self.assertIsNot(r.take(()), r.take(()))

    def test_properties_are_not_set(self):
        for name in ("rule", "bits", "answers", "loose"):
            with self.assertRaises(AttributeError):
                setattr(Receiver(A), name, ())


class TestTogether(Raises):
    def test_a_receiver_of_what_a_sender_sent(self):
        for rule in (A, B, TWO_ONES, CHECKED):
            f = Framing(rule)
            for payloads in plain.lists_by_signs(5):
                s = Sender(rule)
                out = [s.send(payload) for payload in payloads]
                self.assertEqual(s.bits, f(payloads) if payloads else ())
                for size in (1, 2, 5, 100):
                    r = Receiver(rule)
                    for at in range(0, len(s.bits), size):
                        r.take(s.bits[at:at + size])
                    self.assertEqual((r.answers, r.loose), (payloads, (0, 0)))
                    self.assertEqual(r.answers, f.received(s.bits))
                # By the calls of the sender, each one brings its payload.
                r = Receiver(rule)
                self.assertEqual([r.take(bits) for bits in out], [[payload] for payload in payloads])
                self.assertIs(r.bits in f, payloads != [])

    def test_a_receiver_that_begins_anywhere(self):
        payloads = [(1,), (), (0, 1), (1, 1)]
        for rule in (A, B, TWO_ONES, CHECKED):
            bits, flags = stream(rule, payloads), plain.flag_places(rule, payloads)
            for start in range(len(bits)):
                r = Receiver(rule)
                r.take(bits[start:])
                self.assertEqual(r.answers, payloads[len([place for place in flags if place < start]):])


class TestLimits(Raises):
    def test_sixty_calls_of_400_bits(self):
        rule = (many_bits(16, 7), (((1, 1, 1), 0),), 16)
        s, r = Sender(rule), Receiver(rule)
        payloads = [many_bits(400, step) for step in range(30)]
        for payload in payloads:
            r.take(s.send(payload))
        self.assertEqual(s.bits, stream(rule, payloads))
        self.assertEqual((r.bits, r.answers), (s.bits, answers(rule, s.bits)))
        for payload in payloads[::-1]:
            self.assertEqual(s.undo(), payload)
            r.undo()
            self.assertEqual(r.bits, s.bits)

    def test_many_answers(self):
        rule = ((1,), (), 1)
        r = Receiver(rule)
        for _ in range(60):
            r.take((1,) * 400)
        self.assertEqual(len(r), 23999)
        self.assertEqual({r[index] for index in range(len(r))}, {()})


if __name__ == "__main__":
    unittest.main()
