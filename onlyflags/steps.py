"""Single steps of a sender: what is put in behind which tail, and what goes out by which sign.

Whether a bit is put in hangs on the tail of the text alone, so the tail is all
that has to be known of a text to send on from it. A table maps each possible
tail to the bit that is put in there, or to None.

A list of payloads is a row of signs: the bits of its payloads, and an end behind
each one. A place in a row is a tuple (tail, ones) in a payload, or BEHIND_FLAG.
"""

END = 2

BEHIND_FLAG = ((), -1)


def put_table(inserts):
    """Return the table of the inserts of a rule."""
    bits = {word: bit for word, bit in inserts}
    tails = [word[:size] for word in bits for size in range(len(word) + 1)]
    return {tail: _due(bits, tail) for tail in [(), *tails]}


def _due(bits, tail):
    """Return the bit of the longest word that ends a tail, None if no word does."""
    for start in range(len(tail)):
        if tail[start:] in bits:
            return bits[tail[start:]]
    return None


def next_tail(table, tail, bit):
    """Return the tail behind one bit more, without what is put in there."""
    grown = tail + (bit,)
    while grown not in table:
        grown = grown[1:]
    return grown


def put_in(table, tail):
    """Return the bits, at most one, that are put in at a tail, and the tail behind them."""
    bit = table[tail]
    if bit is None:
        return (), tail
    return (bit,), next_tail(table, tail, bit)


def tail_of_flag(table, flag):
    """Return the tail of a flag, without what is put in behind it."""
    tail = ()
    for bit in flag:
        tail = next_tail(table, tail, bit)
    return tail


def behind_flag(table, flag):
    """Return the bits, at most one, that are put in behind a flag, and the tail behind them."""
    return put_in(table, tail_of_flag(table, flag))


def send_on(table, tail, bits):
    """Return the bits that go out by bits of a letter, sent from a tail, and the tail behind them."""
    sent = []
    for bit in bits:
        put, tail = put_in(table, next_tail(table, tail, bit))
        sent.append(bit)
        sent.extend(put)
    return tuple(sent), tail


def check_bits(check, ones):
    """Return the bits that tell a number of ones mod check, the high bit first."""
    width = (check - 1).bit_length()
    return tuple([(ones % check) >> place & 1 for place in reversed(range(width))])


def follow(flag, part, bits):
    """Return the part behind bits sent on from a part, and whether the flag stood at the end of one."""
    broken = False
    for bit in bits:
        part = part + (bit,)
        if part == flag:
            broken = True
            part = part[1:]
        while flag[:len(part)] != part:
            part = part[1:]
    return part, broken


def sign_steps(rule):
    """Return the steps by a 0, a 1 and an end from each place: tuples of the bits that go out and the place behind."""
    flag, inserts, _ = rule
    table = put_table(inserts)
    put, tail = behind_flag(table, flag)
    first = _steps_from(rule, table, tail, 0)
    steps = {BEHIND_FLAG: [(put + bits, place) for bits, place in first]}
    queue = [(tail, 0)]
    at = 0
    while at < len(queue):
        if queue[at] not in steps:
            tail, ones = queue[at]
            steps[queue[at]] = _steps_from(rule, table, tail, ones)
            queue.extend([place for _, place in steps[queue[at]]])
        at += 1
    return steps


def _steps_from(rule, table, tail, ones):
    """Return the steps from a place in a payload."""
    flag, _, check = rule
    steps = []
    for bit in (0, 1):
        bits, after = send_on(table, tail, (bit,))
        steps.append((bits, (after, (ones + bit) % check)))
    bits, _ = send_on(table, tail, check_bits(check, ones))
    return [*steps, (bits + flag, BEHIND_FLAG)]
