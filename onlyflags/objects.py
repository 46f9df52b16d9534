"""Rules as objects."""

from onlyflags.clean import breaking, is_clean
from onlyflags.damage import distance, silent
from onlyflags.errors import InvalidCheck, InvalidInsert
from onlyflags.lists import alike
from onlyflags.receiving import answers, is_stream
from onlyflags.rules import frame, is_insert, is_number, is_word, need_rule, stream, tails
from onlyflags.shares import share


class Framing:
    """A rule as an object that never changes."""

    def __init__(self, rule):
        need_rule(rule)
        self._rule = rule

    @property
    def rule(self):
        """The rule."""
        return self._rule

    @property
    def flag(self):
        """The flag of the rule."""
        return self._rule[0]

    @property
    def inserts(self):
        """The inserts of the rule."""
        return self._rule[1]

    @property
    def check(self):
        """The check of the rule."""
        return self._rule[2]

    def __bool__(self):
        return bool(is_clean(self._rule))

    def __eq__(self, other):
        return isinstance(other, Framing) and alike(self._rule, other._rule)

    def __contains__(self, x):
        return is_word(x) and is_stream(self._rule, x)

    def __getitem__(self, at):
        return frame(self._rule, at)

    def __iter__(self):
        # Else Python would take 0, 1 and so on for payloads to iterate over.
        raise TypeError("a Framing is not iterated over")

    def __call__(self, payloads):
        return stream(self._rule, payloads)

    def __len__(self):
        return len(tails(self._rule))

    def __add__(self, other):
        flag, inserts, check = self._rule
        if not is_insert(other) or other[0] in [word for word, _ in inserts]:
            raise InvalidInsert()
        return Framing((flag, tuple(sorted([*inserts, other])), check))

    def __sub__(self, other):
        flag, inserts, check = self._rule
        # Asked first, as a tuple of other kinds may be equal to a word.
        if not is_word(other) or other not in [word for word, _ in inserts]:
            raise InvalidInsert()
        return Framing((flag, tuple([insert for insert in inserts if insert[0] != other]), check))

    def __mul__(self, other):
        flag, inserts, _ = self._rule
        if not is_number(other) or other < 1:
            raise InvalidCheck()
        return Framing((flag, inserts, other))

    def __invert__(self):
        flag, inserts, check = self._rule
        # What ascends does not ascend any more with 0 and 1 exchanged.
        exchanged = sorted([(_exchanged(word), 1 - bit) for word, bit in inserts])
        return Framing((_exchanged(flag), tuple(exchanged), check))

    def breaking(self):
        """Return the least list of payloads whose stream has another border, None if there is none."""
        return breaking(self._rule)

    def share(self):
        """Return the share of the rule."""
        return share(self._rule)

    def distance(self):
        """Return the least number of flips that make the stream of some list that of another one."""
        return distance(self._rule)

    def silent(self, kind):
        """Return the list with the least stream that has a silent change of a kind, with the least one, or None."""
        return silent(self._rule, kind)

    def received(self, bits):
        """Return the list of the answers between neighbouring borders of a word."""
        return answers(self._rule, bits)


def _exchanged(bits):
    """Return a word with 0 and 1 exchanged."""
    return tuple([1 - bit for bit in bits])
