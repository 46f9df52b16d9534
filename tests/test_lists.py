"""Rules that send the same, and numbers of lists: promises [16] and [17]."""

import unittest
from itertools import combinations

import plain
from onlyflags.errors import InvalidIndex, InvalidLength, InvalidPayloads, InvalidRule
from onlyflags.lists import alike, count_lists, list_index, nth_list, parting
from onlyflags.rules import stream
from plain import A, B, C, NO_RULES
from test_shares import GREAT, NO_LENGTHS

NO_PAYLOADS = [
    None, 0, True, "", "none", (), ((),), ((1,),), {}, {0: ()}, range(0), [[]], [[1]], [(1,), [0]], [(2,)], [(True,)],
    [(1,), None], [0], ["01"], [((1,),)], [(1.0,)], plain.IntLike(), list, object(),
]


def pairs():
    """Pairs of small rules, most of them with one flag."""
    rules = list(plain.small_rules(2, (1, 2)))
    for one in rules[::5]:
        for other in rules[::3]:
            if one[0] == other[0]:
                yield one, other
    for one, other in combinations(rules[::17], 2):
        yield one, other


class TestAlike(unittest.TestCase):
    def test_one_rule(self):
        for rule in list(plain.small_rules(2)) + [A, B, C] + GREAT:
            self.assertIs(alike(rule, rule), True)
            self.assertIsNone(parting(rule, rule))

    def test_an_insert_that_never_comes_about(self):
        self.assertIs(alike(B, ((1, 0, 1), (((1, 0), 0), ((1, 0, 0), 1)), 1)), True)
        # Behind each 1 a 0 is put in, so no 11 ever stands there.
        one = ((0, 1, 0), (((1,), 0),), 2)
        for bit in (0, 1):
            self.assertIs(alike(one, ((0, 1, 0), (((1,), 0), ((1, 1), bit)), 2)), True)
            self.assertIsNone(parting(((0, 1, 0), (((1,), 0), ((1, 1), bit)), 2), one))
        # 11 in the flag counts.
        two = ((1, 1, 0), (((1,), 0),), 2)
        self.assertIs(alike(two, ((1, 1, 0), (((1,), 0), ((1, 1), 1)), 2)), True)
        self.assertIs(alike(((1, 1), (((1,), 0),), 2), ((1, 1), (((1,), 0), ((1, 1), 1)), 2)), False)

    def test_a_shorter_word_that_puts_the_same(self):
        self.assertIs(alike(A, (A[0], (((1,), 0), ((1, 0, 0, 1), 0)), 2)), True)
        self.assertIs(alike(((0, 1), (((1,), 0),), 1), ((0, 1), (((0, 1), 0), ((1,), 0)), 1)), True)

    def test_another_flag(self):
        other = ((0, 1, 1, 1), A[1], A[2])
        self.assertIs(alike(A, other), False)
        self.assertEqual(parting(A, other), [])
        self.assertEqual(parting(other, A), [])
        self.assertEqual(parting(((0, 1), (), 1), ((0, 1, 1), (), 1)), [])
        self.assertEqual(parting(A, B), [])

    def test_another_check(self):
        one = (A[0], A[1], 1)
        self.assertEqual(parting(one, A), [()])
        self.assertEqual(parting(A, one), [()])
        # 1 mod 2 and 1 mod 3 have not as many bits.
        self.assertEqual(parting(A, (A[0], A[1], 3)), [()])
        # 3 mod 3 is 0, and 3 mod 4 is 3: both with two bits.
        self.assertEqual(parting((A[0], A[1], 3), (A[0], A[1], 4)), [(1, 1, 1)])
        self.assertEqual(parting((B[0], (), 4), (B[0], (), 3)), [(1, 1, 1)])
        self.assertEqual(parting((B[0], (), 7), (B[0], (), 8)), [(1,) * 7])

    def test_what_is_put_in_behind_the_flag(self):
        one = ((0, 1, 1), (((0, 1, 1), 0), ((1, 1, 1), 0)), 1)
        other = ((0, 1, 1), (((0, 1, 1), 1), ((1, 1, 1), 0)), 1)
        none = ((0, 1, 1), (((1, 1, 1), 0),), 1)
        for first, second in ((one, other), (one, none), (none, other)):
            self.assertEqual(parting(first, second), [()])
            self.assertEqual(parting(second, first), [()])

    def test_what_is_put_in_behind_a_bit(self):
        self.assertEqual(parting(B, ((1, 0, 1), (((1, 0), 1),), 1)), [(0,)])
        self.assertEqual(parting(B, ((1, 0, 1), (), 1)), [(0,)])
        self.assertEqual(parting(((0, 1), (((1, 1, 0), 1),), 1), ((0, 1), (), 1)), [(1, 0)])
        self.assertEqual(parting(((0, 0), (((1, 1, 0, 1), 1),), 1), ((0, 0), (), 1)), [(1, 1, 0, 1)])

    def test_what_is_put_in_behind_a_bit_of_the_check(self):
        # With the check 2 the payload 1 has the check 1, and behind both a 0 is put in.
        self.assertEqual(parting(((0, 1, 0), (((1, 1), 0),), 2), ((0, 1, 0), (), 2)), [(1,)])
        self.assertEqual(parting(((0, 0), (((0, 0, 0), 1),), 2), ((0, 0), (), 2)), [()])
        self.assertEqual(parting(((1, 0), (((0, 0, 0), 1),), 3), ((1, 0), (), 3)), [()])
        # The payload 01 and the check 01.
        self.assertEqual(parting(((1, 1), (((0, 1, 0, 1), 1),), 3), ((1, 1), (), 3)), [(0, 1)])

    def test_a_bit_that_is_put_in_may_look_like_the_check(self):
        # For the payload 1 one puts a 1 in behind the check, and the other one puts it in ahead of it.
        one = ((0, 0), (((1, 0), 0), ((1, 1), 1)), 2)
        other = ((0, 0), (((0, 1), 1),), 2)
        self.assertNotEqual(plain.sending(one, (1,)), plain.sending(other, (1,)))
        self.assertEqual(stream(one, [(1,)]), stream(other, [(1,)]))
        self.assertEqual(parting(one, other), [(1, 0)])
        self.assertEqual(parting(other, one), [(1, 0)])
        # Behind the flag 1 a 0 is put in, or else behind the check 0.
        one = ((1,), (((1,), 0),), 2)
        other = ((1,), (((0,), 0), ((1, 0), 0)), 2)
        self.assertEqual(parting(one, other), [(0,)])
        for one, other, told in (
            (((0, 0), (((1, 0), 1),), 2), ((0, 0), (((1, 0, 1), 1),), 2), [(1, 1)]),
            (((0, 1), (((1, 1, 0), 0),), 3), ((0, 1), (((0, 1, 1), 0),), 4), [(1, 1)]),
            (((0,), (((0, 0, 1), 0), ((1, 0), 0)), 4), ((0,), (((0, 0, 1), 0), ((1,), 0), ((1, 1), 0)), 4), [(1, 1)]),
        ):
            self.assertEqual(least_parting(one, other, 5), told)
            self.assertEqual(parting(one, other), told)
            self.assertEqual(parting(other, one), told)

    def test_against_the_plain_reading(self):
        found = {}
        for one, other in pairs():
            told = parting(one, other)
            least = least_parting(one, other, 4)
            self.assertIs(alike(one, other), told is None)
            self.assertIs(alike(other, one), told is None)
            self.assertEqual(parting(other, one), told)
            if least is not None or told is None:
                self.assertEqual(told, least, repr((one, other)))
            else:
                self.assertGreater(sum(len(payload) + 1 for payload in told), 4)
                self.assertNotEqual(plain.stream_of(one, told), plain.stream_of(other, told))
            found[repr(told)] = True
        self.assertTrue({"None", "[]", "[()]", "[(0,)]", "[(1,)]", "[(0, 1)]"} <= set(found), found)

    def test_great_rules(self):
        for one, other in combinations(GREAT, 2):
            same = (one[0], other[1], one[2])
            told = parting(one, same)
            self.assertNotEqual(stream(one, told), stream(same, told))
            self.assertEqual(told, least_parting(one, same, sum(len(payload) + 1 for payload in told)))

    def test_wrong_rules(self):
        for value in NO_RULES:
            for call in (alike, parting):
                for one, other in ((value, A), (A, value), (value, value)):
                    with self.assertRaises(InvalidRule):
                        call(one, other)


def least_parting(one, other, most):
    """The least list of at most so many signs for which the streams are unlike, None if there is none."""
    for payloads in plain.lists_by_signs(most):
        if plain.stream_of(one, payloads) != plain.stream_of(other, payloads):
            return payloads
    return None


class TestLists(unittest.TestCase):
    def test_known_lists(self):
        self.assertEqual(count_lists(B, 9), 5)
        lists = [[(0, 0)], [(0, 1)], [(1, 0)], [(1, 1, 1)], [(), ()]]
        self.assertEqual([nth_list(B, 9, index) for index in range(5)], lists)
        self.assertEqual([list_index(B, payloads) for payloads in lists], [0, 1, 2, 3, 4])
        self.assertEqual(count_lists(((0, 1), (), 1), 6), 5)
        self.assertEqual(nth_list(((0, 1), (), 1), 6, 3), [(1, 1)])
        self.assertEqual(nth_list(((0, 1), (), 1), 6, 4), [(), ()])

    def test_lengths_below_the_flag(self):
        for rule in (A, B, ((1,), (), 1)):
            for length in range(len(rule[0])):
                self.assertEqual(count_lists(rule, length), 0)
                for index in (0, 1, -1):
                    with self.assertRaises(InvalidIndex):
                        nth_list(rule, length, index)

    def test_the_empty_list(self):
        for rule in (A, B, C, ((1,), (), 1)):
            self.assertEqual(count_lists(rule, len(rule[0])), 1)
            self.assertEqual(nth_list(rule, len(rule[0]), 0), [])
            self.assertEqual(list_index(rule, []), 0)
            with self.assertRaises(InvalidIndex):
                nth_list(rule, len(rule[0]), 1)

    def test_lengths_without_a_list(self):
        self.assertEqual(count_lists(B, 4), 0)
        self.assertEqual(count_lists(A, 8), 0)
        with self.assertRaises(InvalidIndex):
            nth_list(B, 4, 0)

    def test_against_the_plain_reading(self):
        for rule in list(plain.small_rules(2)) + [A, B, C] + GREAT:
            for length, lists in plain.lists_by_length(rule, 7).items():
                self.assertEqual(count_lists(rule, length), len(lists), repr((rule, length)))
                told = [nth_list(rule, length, index) for index in range(len(lists))]
                self.assertEqual(told, lists, repr((rule, length)))
                self.assertEqual([list_index(rule, payloads) for payloads in lists], list(range(len(lists))))

    def test_longer_lists(self):
        for rule in (A, B, C):
            for length, lists in plain.lists_by_length(rule, 12).items():
                self.assertEqual(count_lists(rule, length), len(lists))
                self.assertEqual([nth_list(rule, length, index) for index in range(len(lists))], lists)
                self.assertEqual([list_index(rule, payloads) for payloads in lists], list(range(len(lists))))

    def test_lists_are_counted_and_not_streams(self):
        # Without inserts the payload 01 of the flag 01 sends what two empty payloads send.
        rule = ((0, 1), (), 1)
        self.assertEqual(stream(rule, [(0, 1)]), stream(rule, [(), ()]))
        self.assertEqual([list_index(rule, [(0, 1)]), list_index(rule, [(), ()])], [1, 4])

    def test_at_the_limits(self):
        for rule in (A, B, C, *GREAT):
            for length in (39, 40):
                many = count_lists(rule, length)
                self.assertGreater(many, 1000)
                indexes = [0, 1, 2, many // 3, many // 3 + 1, many // 2, many - 2, many - 1]
                rows = []
                for index in indexes:
                    payloads = nth_list(rule, length, index)
                    self.assertEqual(len(stream(rule, payloads)), length)
                    self.assertEqual(list_index(rule, payloads), index)
                    rows.append(plain.signs_of(payloads))
                self.assertEqual(rows, sorted(set(rows)))
                for index in (many, many + 1, -1):
                    with self.assertRaises(InvalidIndex):
                        nth_list(rule, length, index)

    def test_numbers_of_lists_by_hand(self):
        # Without inserts and check: a list of k payloads and n bits has (n + k - 1 over k - 1) ways, times 2 ** n.
        rule = ((0, 1, 1), (), 1)
        self.assertEqual([count_lists(rule, length) for length in range(3, 13)], [1, 0, 0, 1, 2, 4, 9, 20, 44, 97])

    def test_wrong_indexes(self):
        wrong = [-1, 5, 6, 99, True, False, None, 1.0, "1", (1,), [1], {}, plain.IntLike(), object(), int]
        for value in wrong:
            with self.assertRaises(InvalidIndex):
                nth_list(B, 9, value)

    def test_wrong_lengths(self):
        for value in NO_LENGTHS:
            with self.assertRaises(InvalidLength):
                count_lists(B, value)
            for index in (0, -1, None):
                with self.assertRaises(InvalidLength):
                    nth_list(B, value, index)

    def test_wrong_payloads(self):
        for value in NO_PAYLOADS:
            with self.assertRaises(InvalidPayloads):
                list_index(B, value)

    def test_wrong_rules(self):
        for value in NO_RULES:
            for length in (0, -1):
                with self.assertRaises(InvalidRule):
                    count_lists(value, length)
                with self.assertRaises(InvalidRule):
                    nth_list(value, length, -1)
            for payloads in ([], None):
                with self.assertRaises(InvalidRule):
                    list_index(value, payloads)


if __name__ == "__main__":
    unittest.main()
