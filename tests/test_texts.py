"""Texts: promise [24]."""

import unittest

import plain
from checks import Raises
from onlyflags.errors import InvalidBits, InvalidPayloads, InvalidRule, InvalidText
from onlyflags.texts import parse_payloads, parse_rule, parse_word, show_payloads, show_rule, show_word
from plain import A, B, C, NO_RULES, NO_WORDS, many_bits

NINE = tuple(sorted((many_bits(18, step), step % 2) for step in range(9)))

RULES = [
    (A, "flag 0110; 1 puts 0; check 2"),
    (B, "flag 101; 10 puts 0; check 1"),
    (C, "flag 1010; 101 puts 1; check 1"),
    (((0,), (), 1), "flag 0; check 1"),
    (((1, 1), (((0,), 1), ((0, 0), 0), ((1,), 0)), 16), "flag 11; 0 puts 1; 00 puts 0; 1 puts 0; check 16"),
    (((1, 0), (((1,), 1),), 999999), "flag 10; 1 puts 1; check 999999"),
    (((1, 0), (), 10), "flag 10; check 10"),
    (((0, 1) * 9, (((1,) * 18, 0),), 100000), "flag 010101010101010101; 111111111111111111 puts 0; check 100000"),
]

LISTS = [
    ([], "none"),
    ([()], "-"),
    ([(), ()], "- -"),
    ([(1, 0), ()], "10 -"),
    ([(), (0,), (1,)], "- 0 1"),
    ([(0, 0, 1)], "001"),
]

# No texts of anything.
NO_STRINGS = [
    None, 0, 1, 101, True, False, 1.0, b"101", b"-", [], ["-"], ["1"], (), (1,), ("1",), ("-",), {}, {"-": 1}, {"-"},
    object(), str, len, plain.IntLike(),
]

NO_TEXTS = [
    "", " ", "\n", "--", " -", "- ", "-0", "0-", "2", "01 2", "O", "l", "0b1", "+1", "1.0", "1_0", "\u0661", "None",
]


class TestWords(Raises):
    def test_both_ways(self):
        for bits, text in (((), "-"), ((0,), "0"), ((1,), "1"), ((0, 0, 1), "001"), ((1,) * 18, "1" * 18)):
            self.assertEqual(show_word(bits), text)
            self.assertEqual(parse_word(text), bits)

    def test_all_short_words(self):
        texts = set()
        for bits in plain.words(0, 6):
            text = show_word(bits)
            self.assertEqual(text, "".join(map(str, bits)) or "-")
            self.assertEqual(parse_word(text), bits)
            texts.add(text)
        self.assertEqual(len(texts), 127)

    def test_long_words(self):
        for size in (400, 1000):
            bits = many_bits(size, size)
            text = show_word(bits)
            self.assertEqual(len(text), size)
            self.assertEqual(parse_word(text), bits)

    def test_kinds(self):
        self.assertEqual([type(bit) for bit in parse_word("01")], [int, int])
        self.assertIs(type(parse_word("-")), tuple)
        self.assertIs(type(show_word(())), str)

    def test_no_words(self):
        for value in NO_WORDS:
            self.assert_raises_just(InvalidBits, show_word, value)

    def test_no_texts(self):
        for value in [*NO_STRINGS, *NO_TEXTS, "none", "0 1", " 01", "01 ", "01\n", "\t01", "0,1", "(0, 1)", "01-"]:
            self.assert_raises_just(InvalidText, parse_word, value)


class TestRules(Raises):
    def test_both_ways(self):
        for rule, text in RULES:
            self.assertEqual(show_rule(rule), text)
            self.assertEqual(parse_rule(text), rule)

    def test_all_small_rules(self):
        for rule in plain.small_rules(2):
            self.assertEqual(parse_rule(show_rule(rule)), rule)

    def test_nine_inserts_of_eighteen_bits(self):
        rule = (many_bits(18, 99), NINE, 123456)
        text = show_rule(rule)
        parts = text.split("; ")
        self.assertEqual(len(parts), 11)
        self.assertEqual(parts[0], "flag " + show_word(rule[0]))
        for part, (word, bit) in zip(parts[1:], NINE):
            self.assertEqual(part, show_word(word) + " puts " + str(bit))
        self.assertEqual(parts[-1], "check 123456")
        self.assertEqual(parse_rule(text), rule)

    def test_kinds(self):
        flag, inserts, check = parse_rule("flag 01; 1 puts 0; check 12")
        self.assertEqual([type(part) for part in (flag, flag[0], inserts, inserts[0])], [tuple, int, tuple, tuple])
        self.assertEqual([type(part) for part in (inserts[0][0], inserts[0][1], check)], [tuple, int, int])

    def test_no_rules(self):
        for value in NO_RULES:
            self.assert_raises_just(InvalidRule, show_rule, value)

    def test_no_texts(self):
        for value in [*NO_STRINGS, *NO_TEXTS, "none", "-", "01", "flag", "check", "flag 01", "check 1", "; "]:
            self.assert_raises_just(InvalidText, parse_rule, value)

    def test_blanks(self):
        text = "flag 0110; 1 puts 0; check 2"
        for at in range(len(text) + 1):
            # A blank too many at any place.
            self.assert_raises_just(InvalidText, parse_rule, text[:at] + " " + text[at:])
        for at in range(len(text)):
            if text[at] == " ":
                self.assert_raises_just(InvalidText, parse_rule, text[:at] + text[at + 1:])
                self.assert_raises_just(InvalidText, parse_rule, text[:at] + "\t" + text[at + 1:])
        for end in ("\n", "\r", "\t", ";", "; "):
            self.assert_raises_just(InvalidText, parse_rule, text + end)
            self.assert_raises_just(InvalidText, parse_rule, end + text)

    def test_what_is_read_is_what_is_written(self):
        read = refused = 0
        for text in ("flag 0110; 1 puts 0; 11 puts 1; check 23", "flag 1; check 1"):
            for at in range(len(text) + 1):
                for end in (at, at + 1):
                    for sign in ("", "0", "1", "7", "-", " ", ";", "p", "\n"):
                        other = text[:at] + sign + text[end:]
                        try:
                            rule = parse_rule(other)
                        except InvalidText:
                            refused += 1
                        else:
                            read += 1
                            self.assertEqual(show_rule(rule), other)
        self.assertGreater(read, 20)
        self.assertGreater(refused, 500)

    def test_missing_and_doubled_parts(self):
        for text in (
            "1 puts 0; check 2", "flag 0110; 1 puts 0", "flag 0110; 1 puts 0; ", "; 1 puts 0; check 2",
            "flag 0110; ; check 2", "flag 0110; flag 0110; check 2", "flag 0110; check 2; check 2",
            "flag 0110; 1 puts 0; check 2; check 2", "flag 0110; 1 puts 0; 1 puts 0; check 2",
            "flag 0110; 1 puts 0; 1 puts 1; check 2", "flag 0110 0110; check 2", "flag 0110; 1 puts 0 1; check 2",
            "flag 0110; 1 puts; check 2", "flag 0110; puts 0; check 2", "flag 0110; 1 0; check 2",
            "flag 0110; 1 puts 0; check", "flag 0110; 1 puts 0; check ", "flag; 1 puts 0; check 2",
            "flag ; 1 puts 0; check 2", "flag 0110; 1 puts 0, 0 puts 1; check 2", "flag 0110; 1 puts 0; check 2 3",
        ):
            self.assert_raises_just(InvalidText, parse_rule, text)

    def test_parts_in_another_order(self):
        for text in (
            "check 2; 1 puts 0; flag 0110", "1 puts 0; flag 0110; check 2", "flag 0110; check 2; 1 puts 0",
            "flag 0110; 1 puts 0; 0 puts 1; check 2", "flag 0110; 10 puts 0; 1 puts 1; check 2",
            "flag 0110; 0 puts 0; 1 puts 0; 01 puts 1; check 2", "0110 flag; 1 puts 0; check 2",
            "flag 0110; 0 puts 1; 1 check 2",
        ):
            self.assert_raises_just(InvalidText, parse_rule, text)

    def test_wrong_numbers(self):
        for number in (
            "0", "00", "02", "002", "-1", "+2", "--2", "2.0", "2e1", "0x2", "1_0", "x", "two", "\u0662", "\u00b2", "-",
            "2\n", "None", "True", "1,0", "'2'",
        ):
            self.assert_raises_just(InvalidText, parse_rule, "flag 0110; 1 puts 0; check " + number)

    def test_wrong_bits(self):
        for flag in ("", "-", "2", "012", "0 1", "\u0660", "-1", "0b1", "01-"):
            self.assert_raises_just(InvalidText, parse_rule, "flag " + flag + "; check 1")
            self.assert_raises_just(InvalidText, parse_rule, "flag 0110; " + flag + " puts 0; check 2")
            self.assert_raises_just(InvalidText, parse_rule, "flag 0110; 1 puts " + flag + "; check 2")
        for bit in ("00", "01", "10", "11"):
            self.assert_raises_just(InvalidText, parse_rule, "flag 0110; 1 puts " + bit + "; check 2")

    def test_letters_of_another_size(self):
        for text in ("Flag 01; check 1", "flag 01; Check 1", "flag 01; 1 Puts 0; check 1", "FLAG 01; CHECK 1"):
            self.assert_raises_just(InvalidText, parse_rule, text)


class TestPayloads(Raises):
    def test_both_ways(self):
        for payloads, text in LISTS:
            self.assertEqual(show_payloads(payloads), text)
            self.assertEqual(parse_payloads(text), payloads)

    def test_all_short_lists(self):
        texts = set()
        for payloads in plain.lists_by_signs(6):
            text = show_payloads(payloads)
            self.assertEqual(parse_payloads(text), payloads)
            texts.add(text)
        self.assertEqual(len(texts), len(list(plain.lists_by_signs(6))))

    def test_long_lists(self):
        payloads = [many_bits(size, size) for size in range(30)]
        text = show_payloads(payloads)
        self.assertEqual(text.split(" "), [show_word(payload) for payload in payloads])
        self.assertEqual(parse_payloads(text), payloads)
        payloads = [many_bits(400, step) for step in range(30)]
        self.assertEqual(parse_payloads(show_payloads(payloads)), payloads)

    def test_new_lists(self):
        for text in ("none", "1 -"):
            first, second = parse_payloads(text), parse_payloads(text)
            self.assertIsNot(first, second)
            first.append((1,))
            self.assertEqual(parse_payloads(text), second)

    def test_no_lists(self):
        for value in [None, 0, "", "none", (), ((1,),), {}, {(1,): 1}, {(1,)}, object(), (1, 0), plain.IntLike()]:
            self.assert_raises_just(InvalidPayloads, show_payloads, value)
        for value in NO_WORDS:
            self.assert_raises_just(InvalidPayloads, show_payloads, [value])
            self.assert_raises_just(InvalidPayloads, show_payloads, [(1,), value, (0,)])

    def test_no_texts(self):
        for value in [*NO_STRINGS, *NO_TEXTS]:
            self.assert_raises_just(InvalidText, parse_payloads, value)
        for text in (
            "none ", " none", "none none", "none -", "- none", "None", "[]", "10  -", " 10", "10 ", "10,-", "10\n-",
            "10\t-", "10 2", "10 --", "1 0 x", "10;-", "10; -", "10 -\n", "(1, 0)",
        ):
            self.assert_raises_just(InvalidText, parse_payloads, text)


if __name__ == "__main__":
    unittest.main()
