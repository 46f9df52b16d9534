"""Rules, and the texts and streams that are sent by them."""

from onlyflags.errors import InvalidBits, InvalidLength, InvalidPayloads, InvalidRule
from onlyflags.steps import behind_flag, check_bits, put_table, send_on


def is_number(value):
    """Return whether any value is an integer, as which True and False do not count."""
    return isinstance(value, int) and not isinstance(value, bool)


def is_bit(value):
    """Return whether any value is a bit."""
    return is_number(value) and value in (0, 1)


def is_word(value):
    """Return whether any value is a word."""
    return isinstance(value, tuple) and all([is_bit(bit) for bit in value])


def is_full_word(value):
    """Return whether any value is a word of at least one bit."""
    return is_word(value) and len(value) > 0


def is_rule(value):
    """Return whether any value is a rule."""
    if not isinstance(value, tuple) or len(value) != 3:
        return False
    flag, inserts, check = value
    return is_full_word(flag) and _are_inserts(inserts) and is_number(check) and check >= 1


def _are_inserts(value):
    """Return whether any value is a tuple of inserts in their order, each word once."""
    if not isinstance(value, tuple) or not all([is_insert(part) for part in value]):
        return False
    words = [word for word, _ in value]
    return all([words[at] < words[at + 1] for at in range(len(words) - 1)])


def is_insert(value):
    """Return whether any value is a tuple of a word of at least one bit and a bit."""
    return isinstance(value, tuple) and len(value) == 2 and is_full_word(value[0]) and is_bit(value[1])


def need_rule(value):
    """Raise InvalidRule for any value that is no rule."""
    if not is_rule(value):
        raise InvalidRule()


def need_bits(value):
    """Raise InvalidBits for any value that is no word."""
    if not is_word(value):
        raise InvalidBits()


def need_payloads(value):
    """Raise InvalidPayloads for any value that is not a list of payloads."""
    if not isinstance(value, list) or not all([is_word(payload) for payload in value]):
        raise InvalidPayloads()


def need_length(value):
    """Raise InvalidLength for any value that is not an integer from 0 on."""
    if not is_number(value) or value < 0:
        raise InvalidLength()


def letter(rule, payload):
    """Return a payload and behind it the bits of its check."""
    need_rule(rule)
    need_bits(payload)
    return payload + check_bits(rule[2], sum(payload))


def frame(rule, payload):
    """Return the text of a payload."""
    bits = letter(rule, payload)
    flag, inserts, _ = rule
    table = put_table(inserts)
    put, tail = behind_flag(table, flag)
    sent, _ = send_on(table, tail, bits)
    return flag + put + sent


def stream(rule, payloads):
    """Return the texts of a list of payloads, one behind the other, and the flag."""
    need_rule(rule)
    need_payloads(payloads)
    texts = [frame(rule, payload) for payload in payloads]
    return tuple([bit for text in [*texts, rule[0]] for bit in text])


def tails(rule):
    """Return the ascending list of the tails behind the flag or a bit of the payload."""
    need_rule(rule)
    flag, inserts, _ = rule
    table = put_table(inserts)
    _, first = behind_flag(table, flag)
    found = [first]
    at = 0
    while at < len(found):
        for bit in (0, 1):
            _, tail = send_on(table, found[at], (bit,))
            if tail not in found:
                found.append(tail)
        at += 1
    return sorted(found)
