"""The examples of sections 2 to 12 of the document, with just the answers that it shows, and of the README."""

import doctest
import unittest
from pathlib import Path

README = Path(__file__).resolve().parent.parent / "README.md"

SECTIONS = r"""
    >>> from onlyflags.rules import frame, is_rule, letter, stream, tails
    >>> a = ((0, 1, 1, 0), (((1,), 0),), 2)
    >>> b = ((1, 0, 1), (((1, 0), 0),), 1)
    >>> c = ((1, 0, 1, 0), (((1, 0, 1), 1),), 1)
    >>> [is_rule(a), is_rule(((), (), 1)), letter(a, (1,)), letter(b, (1,)), frame(a, (1,)), frame(b, (0,))]
    [True, False, (1, 1), (1,), (0, 1, 1, 0, 1, 0, 1, 0), (1, 0, 1, 0, 0)]
    >>> [stream(a, [()]), stream(b, []), stream(b, [(0,), ()]), tails(a), tails(b)]
    [(0, 1, 1, 0, 0, 0, 1, 1, 0), (1, 0, 1), (1, 0, 1, 0, 0, 1, 0, 1, 1, 0, 1), [()], [(), (1,)]]

    >>> from onlyflags.receiving import answers, borders, is_stream, loose
    >>> [answers(a, stream(a, [(1,), ()])), answers(a, (0, 1, 1, 0, 1, 0, 1, 1, 0)), answers(a, (0, 1, 1, 0, 0, 1, 0, 0, 1, 1, 0))]
    [[(1,), ()], ['short'], ['check']]
    >>> [borders(a, (0, 1, 1, 0, 1, 1, 0)), answers(a, (0, 1, 1, 0, 1, 1, 0)), loose(a, (1, 0, 1, 1, 0, 1)), loose(a, (1, 1)), is_stream(b, (1, 0, 1)), answers(b, (1, 0, 1, 1, 0, 1, 0, 0, 1, 0, 1))]
    [[0, 3], ['overlap'], (1, 1), (2, 0), True, [(), (0,)]]

    >>> from onlyflags.clean import breaking, clean_table, is_clean, is_clean_table
    >>> [is_clean(a), is_clean(b), breaking(b), breaking(c), clean_table(b), is_clean_table(b, [])]
    [True, True, None, [()], [((), (), 0), ((1,), (1,), 0)], False]
    >>> [breaking(((1, 1), (((1, 1), 0),), 1)), is_clean(((1, 1), (((1,), 0),), 1))]
    [[(1,)], True]

    >>> from onlyflags.shares import is_share_table, most_put, ring, share, share_table
    >>> [share(a), share(b), ring(a), ring(b), most_put(b, 3), share_table(b), share(((1,), (), 1))]
    [(1, 1), (1, 2), ((), (1,)), ((), (0, 1)), (2, (0, 1, 0)), [((), 1), ((1,), 0)], (0, 1)]
    >>> [is_share_table(b, (1, 2), [((1,), 0), ((), 1)]), is_share_table(b, (1, 3), [((), 1), ((1,), 0)]), is_share_table(b, (1, 2), [])]
    [True, False, False]

    >>> from onlyflags.lists import alike, count_lists, list_index, nth_list, parting
    >>> [alike(b, ((1, 0, 1), (((1, 0), 0), ((1, 0, 0), 1)), 1)), parting(b, ((1, 0, 1), (((1, 0), 1),), 1)), parting(a, b)]
    [True, [(0,)], []]
    >>> [count_lists(b, 9), [nth_list(b, 9, index) for index in range(5)], list_index(b, [(), ()]), count_lists(b, 4)]
    [5, [[(0, 0)], [(0, 1)], [(1, 0)], [(1, 1, 1)], [(), ()]], 4, 0]

    >>> from onlyflags.damage import changed, distance, harm, nearest, silent, spread
    >>> [changed((0, 1, 1), ("flip", 0)), changed((0, 1), ("add", 2, 1)), spread(a, "flip"), harm(a, [(), (1,)], ("flip", 4)), harm(b, [(1,), ()], ("flip", 5))]
    [(1, 1, 1), (0, 1, 1), 2, ([0], ['short']), ([0, 1], [(1, 1, 1, 1)])]
    >>> [silent(a, "flip"), silent(b, "flip"), silent(a, "lose"), silent(a, "add"), distance(a), distance(b), nearest(a), nearest(b)]
    [None, ([(0, 0)], ('flip', 3)), ([(0,)], ('lose', 3)), ([()], ('add', 3, 0)), 2, 1, ([(0, 0, 0)], [(1,)]), ([(0, 0)], [(0, 1)])]

    >>> from onlyflags.finding import best_rules, clean_words
    >>> [clean_words((1, 1)), best_rules((1, 1)), clean_words((0, 1)), clean_words((1,))]
    [[(((1,), 0),)], [((1, 1), (((1,), 0),), 1)], [], []]

    >>> from onlyflags.texts import parse_payloads, parse_rule, show_payloads, show_rule, show_word
    >>> [show_rule(a), show_word(()), show_payloads([(1, 0), ()]), parse_payloads("none"), parse_rule("flag 101; check 1")]
    ['flag 0110; 1 puts 0; check 2', '-', '10 -', [], ((1, 0, 1), (), 1)]

    >>> from onlyflags.objects import Framing
    >>> f = Framing(b)
    >>> [bool(f), len(f), f[(0,)], (1, 0, 1, 1, 0, 1) in f, f == f + ((1, 0, 0), 1), bool(f - (1, 0)), (~f).flag, (f * 2).check, f.share()]
    [True, 2, (1, 0, 1, 0, 0), True, True, False, (0, 1, 0), 2, (1, 2)]

    >>> from onlyflags.live import Receiver, Sender
    >>> s, r = Sender(a), Receiver(a)
    >>> [s.send(()), s.send((1,)), s.bits == stream(a, [(), (1,)]), len(s), s.undo(), s.payloads]
    [(0, 1, 1, 0, 0, 0, 1, 1, 0), (1, 0, 1, 0, 0, 1, 1, 0), True, 2, (1,), [()]]
    >>> [r.take((1, 0, 1, 1)), r.take((0, 0, 0, 1, 1, 0)), r.loose, r.take((1,)), r.loose, r.answers, r.undo(), len(r)]
    [[], [()], (1, 0), [], (1, 1), [()], (1,), 1]

    >>> from onlyflags.lines import Line, StrictCappedLine
    >>> x = Line(a)
    >>> [x.send(()), x.spoil(("flip", 0)), x.waiting, x.send((0,)), x.waiting, x.came == x.sent, x.tell()]
    [[()], None, ('flip', 0), ['check'], None, False, ['flag 0110; 1 puts 0; check 2', 'sent - 0', 'payload -', 'check']]
"""


class TestExamples(unittest.TestCase):
    def run_examples(self, text):
        examples = doctest.DocTestParser().get_doctest(text, {}, "examples", None, 0)
        told = []
        result = doctest.DocTestRunner(verbose=False).run(examples, out=told.append)
        self.assertEqual(result.failed, 0, "".join(told))
        return result.attempted

    def test_document(self):
        self.assertEqual(self.run_examples(SECTIONS), 35)

    def test_readme(self):
        self.assertGreater(self.run_examples(README.read_text()), 50)


if __name__ == "__main__":
    unittest.main()
