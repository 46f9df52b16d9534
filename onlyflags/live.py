"""Senders, and receivers that are fed by pieces."""

from onlyflags.errors import InvalidIndex, NothingToUndo
from onlyflags.receiving import answers, loose
from onlyflags.rules import frame, is_number, need_bits, need_rule, stream


class Sender:
    """Sends payloads one after the other."""

    def __init__(self, rule):
        need_rule(rule)
        self._rule = rule
        self._payloads = []

    @property
    def rule(self):
        """The rule."""
        return self._rule

    @property
    def payloads(self):
        """The list of the payloads sent."""
        return list(self._payloads)

    @property
    def bits(self):
        """All bits that went out, none ahead of the first call."""
        return stream(self._rule, self._payloads) if self._payloads else ()

    def __len__(self):
        return len(self._payloads)

    def __eq__(self, other):
        return isinstance(other, Sender) and self._rule == other._rule and self._payloads == other._payloads

    def send(self, payload):
        """Send a payload and return the bits that go out by it."""
        flag = self._rule[0]
        text = frame(self._rule, payload)
        # Behind the first call, the flag ahead of the payload is the one that went out by the last call.
        ahead = text[len(flag):] if self._payloads else text
        self._payloads.append(payload)
        return ahead + flag

    def undo(self):
        """Take the last payload back and return it."""
        if not self._payloads:
            raise NothingToUndo()
        return self._payloads.pop()

    def twin(self):
        """Return another object with the same rule and payloads."""
        other = Sender(self._rule)
        other._payloads = list(self._payloads)
        return other


class Receiver:
    """Takes words one after the other and answers what stands between the borders."""

    def __init__(self, rule):
        need_rule(rule)
        self._rule = rule
        self._words = []
        self._answers = []

    @property
    def rule(self):
        """The rule."""
        return self._rule

    @property
    def bits(self):
        """All bits that were taken."""
        return tuple([bit for word in self._words for bit in word])

    @property
    def answers(self):
        """The list of all answers."""
        return list(self._answers)

    @property
    def loose(self):
        """The numbers of bits ahead of the first border and behind the flag of the last one."""
        return loose(self._rule, self.bits)

    def __len__(self):
        return len(self._answers)

    def __getitem__(self, at):
        if not is_number(at) or not 0 <= at < len(self._answers):
            raise InvalidIndex()
        return self._answers[at]

    def __iter__(self):
        # Else Python would take 0, 1 and so on for indexes to iterate over.
        raise TypeError("a Receiver is not iterated over")

    def __eq__(self, other):
        return isinstance(other, Receiver) and self._rule == other._rule and self.bits == other.bits

    def take(self, bits):
        """Take a word and return the list of the answers that it brings."""
        need_bits(bits)
        ahead = len(self._answers)
        self._words.append(bits)
        self._answers = answers(self._rule, self.bits)
        return self._answers[ahead:]

    def undo(self):
        """Take the last call of take back and return its word."""
        if not self._words:
            raise NothingToUndo()
        word = self._words.pop()
        self._answers = answers(self._rule, self.bits)
        return word

    def twin(self):
        """Return another object with the same rule, bits and calls to take back."""
        other = Receiver(self._rule)
        other._words = list(self._words)
        other._answers = list(self._answers)
        return other
