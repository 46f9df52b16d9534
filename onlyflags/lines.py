"""Lines: a sender and a receiver, with wrong bits between them."""

from onlyflags.damage import changed, is_change
from onlyflags.errors import InvalidChange, InvalidNumber, NothingToUndo, Spoilt, TooLong, Waiting
from onlyflags.live import Receiver, Sender
from onlyflags.rules import is_number, is_rule, is_word
from onlyflags.texts import parse_rule, show_payloads, show_rule, show_word


class Line:
    """A sender, a line on which a change may wait for its bit, and a receiver."""

    KINDS = 3

    def __init__(self, rule):
        self._sender = Sender(rule)
        self._receiver = Receiver(rule)
        self._waiting = None
        # For each call that undo takes back: its argument, whether it sent, and the change that waited ahead of it.
        self._calls = []

    @staticmethod
    def is_valid(value):
        """Return whether any value can be the rule of a line."""
        return is_rule(value)

    @classmethod
    def read(cls, text):
        """Return a line that has sent nothing, from the text of its rule."""
        return cls(parse_rule(text))

    @property
    def rule(self):
        """The rule."""
        return self._sender.rule

    @property
    def payloads(self):
        """The list of the payloads sent."""
        return self._sender.payloads

    @property
    def sent(self):
        """All bits that went out, none ahead of the first call."""
        return self._sender.bits

    @property
    def came(self):
        """All bits that came to the receiver."""
        return self._receiver.bits

    @property
    def answers(self):
        """The list of all answers of the receiver."""
        return self._receiver.answers

    @property
    def waiting(self):
        """The change that waits, with the index that it has now, or None."""
        return self._waiting

    def __len__(self):
        return len(self._sender)

    def send(self, payload):
        """Send a payload and return the list of the answers that it brings."""
        bits = self._sender.send(payload)
        self._calls.append((payload, True, self._waiting))
        return self._receiver.take(self._carry(bits))

    def spoil(self, change):
        """Let a change wait, whose index counts the bits that go out from now on."""
        if not is_change(change):
            raise InvalidChange()
        if self._waiting is not None:
            raise Waiting()
        self._calls.append((change, False, None))
        self._waiting = change

    def undo(self):
        """Take the last call of send or spoil back and return its argument."""
        if not self._calls:
            raise NothingToUndo()
        argument, went_out, waiting = self._calls.pop()
        if went_out:
            self._sender.undo()
            self._receiver.undo()
        self._waiting = waiting
        return argument

    def tell(self):
        """Return the strings that tell the rule, what was sent, and the answers."""
        told = [_show_answer(answer) for answer in self.answers]
        return [show_rule(self.rule), f"sent {show_payloads(self.payloads)}", *told]

    def _carry(self, bits):
        """Return what comes of bits that go out; a change that is for none of them waits on."""
        change = self._waiting
        if change is None:
            return bits
        kind, index, *added = change
        if index < len(bits):
            self._waiting = None
            return changed(bits, change)
        self._waiting = (kind, index - len(bits), *added)
        return bits


class StrictLine(Line):
    """A line on which no answer comes that is no payload."""

    def send(self, payload):
        """Send a payload and return the list of the answers that it brings."""
        told = super().send(payload)
        if not all([is_word(answer) for answer in told]):
            self.undo()
            raise Spoilt()
        return told

    def tell(self):
        """Return the strings of a line, and that it is strict."""
        return super().tell() + ["strict"]


class CappedLine(Line):
    """A line on which at most a number of bits go out."""

    def __init__(self, rule, most=40):
        super().__init__(rule)
        if not is_number(most) or most < 0:
            raise InvalidNumber()
        self._most = most

    @property
    def most(self):
        """The number of bits that may go out."""
        return self._most

    def send(self, payload):
        """Send a payload and return the list of the answers that it brings."""
        trial = self._sender.twin()
        trial.send(payload)
        if len(trial.bits) > self._most:
            raise TooLong()
        return super().send(payload)

    def tell(self):
        """Return the strings of a line, and how many bits may go out."""
        return super().tell() + [f"most {self._most}"]


# CappedLine stands first, so that its send judges ahead of the other one's, and its tell adds behind the other one's.
class StrictCappedLine(CappedLine, StrictLine):
    """A line that is both."""


def _show_answer(answer):
    """Return an answer's word, or the text of a payload."""
    return answer if isinstance(answer, str) else f"payload {show_word(answer)}"
