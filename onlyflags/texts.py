"""Texts of words, rules and lists of payloads."""

from onlyflags.errors import InvalidText
from onlyflags.rules import is_rule, need_bits, need_payloads, need_rule


def show_word(bits):
    """Return the text of a word."""
    need_bits(bits)
    return "".join([str(bit) for bit in bits]) if bits else "-"


def parse_word(text):
    """Return the word that a text tells."""
    _need_text(text)
    if text == "-":
        return ()
    if text == "" or not all([sign in ("0", "1") for sign in text]):
        raise InvalidText()
    return tuple([int(sign) for sign in text])


def show_rule(rule):
    """Return the text of a rule."""
    need_rule(rule)
    flag, inserts, check = rule
    parts = [f"{show_word(word)} puts {bit}" for word, bit in inserts]
    return "; ".join([f"flag {show_word(flag)}", *parts, f"check {check}"])


def parse_rule(text):
    """Return the rule that a text tells."""
    _need_text(text)
    parts = text.split("; ")
    inserts = tuple([_parse_insert(part) for part in parts[1:-1]])
    rule = (parse_word(_behind("flag ", parts[0])), inserts, _parse_number(_behind("check ", parts[-1])))
    # The parts may be written well and yet be no rule: words that do not ascend, or the flag -.
    if not is_rule(rule):
        raise InvalidText()
    return rule


def show_payloads(payloads):
    """Return the text of a list of payloads."""
    need_payloads(payloads)
    return " ".join([show_word(payload) for payload in payloads]) if payloads else "none"


def parse_payloads(text):
    """Return the list of payloads that a text tells."""
    _need_text(text)
    if text == "none":
        return []
    return [parse_word(part) for part in text.split(" ")]


def _need_text(value):
    """Raise InvalidText for any value that is no string."""
    if not isinstance(value, str):
        raise InvalidText()


def _behind(name, part):
    """Return what stands in a part behind its name."""
    if not part.startswith(name):
        raise InvalidText()
    return part[len(name):]


def _parse_insert(part):
    """Return the tuple of a word and a bit that a part tells."""
    words = part.split(" ")
    if len(words) != 3 or words[1] != "puts" or words[2] not in ("0", "1"):
        raise InvalidText()
    return parse_word(words[0]), int(words[2])


def _parse_number(text):
    """Return the integer from 1 on that digits without leading zeros tell."""
    # isdigit alone would let digits of other scripts through.
    if not text.isascii() or not text.isdigit() or text[0] == "0":
        raise InvalidText()
    return int(text)
