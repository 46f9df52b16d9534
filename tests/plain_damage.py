"""A slow second reading of the document's section on wrong bits, by going through lists, changes and pairs."""

import plain
from onlyflags.receiving import answers


def changes_of(kind, size):
    """All changes of a kind of a word of a size, in their order."""
    if kind == "add":
        return [("add", at, bit) for at in range(size + 1) for bit in (0, 1)]
    return [(kind, at) for at in range(size)]


def marked(bits, change):
    """The changed word as tuples (bit, index that it had or None)."""
    rows = [(bit, at) for at, bit in enumerate(bits)]
    kind, at, *more = change
    if kind == "flip":
        rows[at] = (1 - bits[at], at)
    elif kind == "lose":
        rows.pop(at)
    else:
        rows.insert(at, (more[0], None))
    return rows


def changed_of(bits, change):
    return tuple(bit for bit, _ in marked(bits, change))


def lies_in(change, row):
    """Whether a change lies in a row of indexes."""
    if change[0] == "add":
        return change[1] - 1 in row and change[1] in row
    return change[1] in row


def harm_of(rule, payloads, change):
    """The payloads that are hit and the strange answers, word by word as the document has them."""
    sent = plain.stream_of(rule, payloads)
    rows = marked(sent, change)
    came = tuple(bit for bit, _ in rows)
    place = {old: new for new, (_, old) in enumerate(rows)}
    flags = plain.flag_places(rule, payloads)
    borders = plain.borders_of(rule, came)
    hits, kept = [], {}
    for index, payload in enumerate(payloads):
        start, end = flags[index], flags[index + 1]
        if lies_in(change, range(start, end + len(rule[0]))):
            hits.append(index)
        elif any(place[start] < border < place[end] for border in borders):
            hits.append(index)
        else:
            kept[(place[start], place[end])] = payload
    strange = []
    for pair, answer in zip(zip(borders, borders[1:]), answers(rule, came)):
        if pair not in kept:
            strange.append(answer)
        elif kept.pop(pair) != answer:
            raise AssertionError("a payload that is not hit is answered as it was sent")
    if kept:
        raise AssertionError("a payload that is not hit is answered")
    return hits, strange


def streams_of(rule, most):
    """The streams of at most so many bits in their order, with their lists."""
    found = {}
    for lists in plain.lists_by_length(rule, most).values():
        for payloads in lists:
            found[plain.stream_of(rule, payloads)] = payloads
    return {bits: found[bits] for bits in sorted(found, key=lambda bits: (len(bits), bits))}


def silent_of(streams, kind, most):
    """The list with the least stream of at most so many bits that has a silent change, and the least one, or None."""
    for bits, payloads in streams.items():
        if len(bits) <= most:
            for change in changes_of(kind, len(bits)):
                if changed_of(bits, change) in streams:
                    return payloads, change
    return None


def apart(one, other):
    return sum(bit != another for bit, another in zip(one, other))


def nearest_of(streams):
    """The least number of places in which two streams as long differ, and their lists, or None."""
    best = None
    rows = list(streams)
    for one in rows:
        for other in rows:
            if len(one) == len(other) and one != other and (best is None or apart(one, other) < best[0]):
                best = apart(one, other), (streams[one], streams[other])
    return best
