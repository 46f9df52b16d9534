"""What a receiver makes of a word that comes over the line."""

from onlyflags.rules import is_word, need_bits, need_rule
from onlyflags.steps import check_bits, next_tail, put_table, tail_of_flag


def borders(rule, bits):
    """Return the ascending list of the indexes at which the flag stands in a word."""
    need_rule(rule)
    need_bits(bits)
    flag = rule[0]
    size = len(flag)
    return [at for at in range(len(bits) - size + 1) if bits[at:at + size] == flag]


def answers(rule, bits):
    """Return the list of the answers between neighbouring borders of a word."""
    places = borders(rule, bits)
    table = put_table(rule[1])
    return [_answer(rule, table, bits[start:end]) for start, end in zip(places, places[1:])]


def _answer(rule, table, text):
    """Return the answer to the bits from one border to the next one."""
    flag, _, check = rule
    if len(text) < len(flag):
        return "overlap"
    tail = tail_of_flag(table, flag)
    due = table[tail]
    read = []
    for bit in text[len(flag):]:
        tail = next_tail(table, tail, bit)
        if due is None:
            read.append(bit)
            due = table[tail]
        elif bit == due:
            # Behind a bit that was put in no further one is put in.
            due = None
        else:
            return "bit"
    if due is not None:
        return "short"
    return _payload(check, tuple(read))


def _payload(check, read):
    """Return the payload of a letter, "check" if its check is not right."""
    size = len(read) - len(check_bits(check, 0))
    if size < 0 or check_bits(check, sum(read[:size])) != read[size:]:
        return "check"
    return read[:size]


def loose(rule, bits):
    """Return how many bits stand ahead of the first border and behind the last one's flag."""
    places = borders(rule, bits)
    if not places:
        return len(bits), 0
    return places[0], len(bits) - places[-1] - len(rule[0])


def is_stream(rule, bits):
    """Return whether a word has a border, nothing loose, and only payloads as its answers."""
    if not borders(rule, bits) or loose(rule, bits) != (0, 0):
        return False
    return all([is_word(answer) for answer in answers(rule, bits)])
