"""Single steps of a sender: what is put in behind which tail.

Whether a bit is put in hangs on the tail of the text alone, so the tail is all
that has to be known of a text to send on from it. A table maps each possible
tail to the bit that is put in there, or to None.
"""


def put_table(inserts):
    """Return the table of the inserts of a rule."""
    bits = {word: bit for word, bit in inserts}
    tails = [word[:size] for word in bits for size in range(len(word) + 1)]
    return {tail: _due(bits, tail) for tail in [(), *tails]}


def _due(bits, tail):
    """Return the bit of the longest word that ends a tail, None if no word does."""
    for start in range(len(tail)):
        if tail[start:] in bits:
            return bits[tail[start:]]
    return None


def next_tail(table, tail, bit):
    """Return the tail behind one bit more, without what is put in there."""
    grown = tail + (bit,)
    while grown not in table:
        grown = grown[1:]
    return grown


def put_in(table, tail):
    """Return the bits, at most one, that are put in at a tail, and the tail behind them."""
    bit = table[tail]
    if bit is None:
        return (), tail
    return (bit,), next_tail(table, tail, bit)


def tail_of_flag(table, flag):
    """Return the tail of a flag, without what is put in behind it."""
    tail = ()
    for bit in flag:
        tail = next_tail(table, tail, bit)
    return tail


def send_on(table, tail, bits):
    """Return the bits that go out by bits of a letter, sent from a tail, and the tail behind them."""
    sent = []
    for bit in bits:
        put, tail = put_in(table, next_tail(table, tail, bit))
        sent.append(bit)
        sent.extend(put)
    return tuple(sent), tail
