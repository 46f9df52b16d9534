"""Wrong bits: what one change of a stream does, and which changes make a stream another one.

The streams of a clean rule are read by a machine: a list of rows, one for each
state, of the states behind a 0 and a 1 (None where no stream goes on so) and of
whether a stream may end there. Its first state is 0.
"""

from onlyflags.clean import breaking
from onlyflags.errors import InvalidChange, InvalidKind, NotClean
from onlyflags.receiving import answers, borders, is_stream
from onlyflags.rules import is_bit, is_number, need_bits, need_rule, stream
from onlyflags.steps import BEHIND_FLAG, follow, sign_steps


def changed(bits, change):
    """Return a word with a change."""
    need_bits(bits)
    _need_change(bits, change)
    return _change(bits, change)


def harm(rule, payloads, change):
    """Return the indexes of the payloads that a change of their stream hits, and the strange answers."""
    sent = stream(rule, payloads)
    _need_change(sent, change)
    _need_clean(rule)
    came = _change(sent, change)
    places = borders(rule, sent)
    hits = []
    kept = {}
    for index in range(len(payloads)):
        start = places[index]
        if _lies_in(change, start, places[index + 1] + len(rule[0])):
            hits.append(index)
        else:
            # A row without the change comes as it was sent, so that no border comes about in it; it is
            # only moved if the change is ahead of it.
            moved = len(came) - len(sent) if change[1] <= start else 0
            kept[start + moved] = True
    strange = [answer for start, answer in zip(borders(rule, came), answers(rule, came)) if start not in kept]
    return hits, strange


def silent(rule, kind):
    """Return the list with the least stream that has a silent change of a kind, with the least one, or None."""
    need_rule(rule)
    _need_kind(kind)
    _need_clean(rule)
    bits = _least_stream(_machine(rule), kind, 1)
    if bits is None:
        return None
    changes = [change for change in _changes(kind, len(bits)) if is_stream(rule, _change(bits, change))]
    return answers(rule, bits), changes[0]


def distance(rule):
    """Return the least number of flips that make the stream of some list that of another one."""
    need_rule(rule)
    _need_clean(rule)
    flips, _ = _nearest_stream(_machine(rule))
    return flips


def nearest(rule):
    """Return the two lists whose streams are as long and least apart: the least first, then the least second one."""
    need_rule(rule)
    _need_clean(rule)
    machine = _machine(rule)
    flips, bits = _nearest_stream(machine)
    return answers(rule, bits), answers(rule, _least_flipped(machine, bits, flips))


def spread(rule, kind):
    """Return the greatest number of strange answers that one change of a kind can have."""
    need_rule(rule)
    _need_kind(kind)
    _need_clean(rule)
    # Amid a long stream a change hits one payload, or it hits two and breaks the flag between them. So it
    # makes one answer strange, and one more for each border that comes about with it.
    return 1 + _most_borders(_machine(rule), rule[0], kind)


def is_change(value):
    """Return whether any value is a change of some word."""
    if not isinstance(value, tuple) or len(value) < 2 or not _is_kind(value[0]):
        return False
    if not is_number(value[1]) or value[1] < 0:
        return False
    if value[0] == "add":
        return len(value) == 3 and is_bit(value[2])
    return len(value) == 2


def _is_kind(value):
    """Return whether any value is a kind of changes."""
    return isinstance(value, str) and value in ("flip", "lose", "add")


def _need_change(bits, value):
    """Raise InvalidChange for any value that is no change of a word."""
    if not is_change(value):
        raise InvalidChange()
    last = len(bits) if value[0] == "add" else len(bits) - 1
    if value[1] > last:
        raise InvalidChange()


def _need_kind(value):
    """Raise InvalidKind for any value that is no kind of changes."""
    if not _is_kind(value):
        raise InvalidKind()


def _need_clean(rule):
    """Raise NotClean, with the least list that shows it, for a rule that is not clean."""
    payloads = breaking(rule)
    if payloads is not None:
        raise NotClean(payloads)


def _change(bits, change):
    """Return a word with one of its changes."""
    kind, at = change[0], change[1]
    if kind == "flip":
        return bits[:at] + (1 - bits[at],) + bits[at + 1:]
    if kind == "lose":
        return bits[:at] + bits[at + 1:]
    return bits[:at] + (change[2],) + bits[at:]


def _changes(kind, size):
    """Return the ascending list of all changes of a kind of a word of a size."""
    if kind == "add":
        return [(kind, at, bit) for at in range(size + 1) for bit in (0, 1)]
    return [(kind, at) for at in range(size)]


def _lies_in(change, start, end):
    """Return whether a change lies in the row of bits from one index to ahead of another one."""
    if change[0] == "add":
        return start < change[1] < end
    return start <= change[1] < end


def _machine(rule):
    """Return the machine that reads the streams of a clean rule."""
    steps = sign_steps(rule)
    # Each state stands for all senders, with the bits that are due and the place behind them, that may
    # have sent what was read.
    start = ((rule[0], BEHIND_FLAG),)
    numbers = {start: 0}
    states = [start]
    machine = []
    while len(machine) < len(states):
        senders = states[len(machine)]
        row = []
        for bit in (0, 1):
            after = _senders_behind(steps, senders, bit)
            if after and after not in numbers:
                numbers[after] = len(states)
                states.append(after)
            row.append(numbers.get(after))
        machine.append((row[0], row[1], ((), BEHIND_FLAG) in senders))
    return machine


def _senders_behind(steps, senders, bit):
    """Return the ascending tuple of the senders behind a bit."""
    found = {}
    for due, place in senders:
        ways = [(due, place)] if due else steps[place]
        for bits, after in ways:
            if bits[0] == bit:
                found[(bits[1:], after)] = True
    return tuple(sorted(found))


def _most_borders(machine, flag, kind):
    """Return the most borders of a changed stream that hold the place of one change of a kind."""
    # What is sent for the wrong bit, and what comes; behind it all bits come as they are sent.
    wrong = {"flip": [((0,), (1,)), ((1,), (0,))], "lose": [((0,), ()), ((1,), ())], "add": [((), (0,)), ((), (1,))]}
    right = [((0,), (0,)), ((1,), (1,))]
    counts = {point: 0 for point in _points(machine, flag, right)}
    for steps in [wrong[kind]] + [right] * (len(flag) - 1):
        behind = {}
        for point in counts:
            for after, ended in _points_behind(machine, flag, point, steps):
                behind[after] = max(behind.get(after, 0), counts[point] + ended)
        counts = behind
    return max(list(counts.values()))


def _points(machine, flag, steps):
    """Return the list of the points, a state with the part of the flag that has come, to which streams lead."""
    points = [(0, ())]
    at = 0
    while at < len(points):
        for after, _ in _points_behind(machine, flag, points[at], steps):
            if after not in points:
                points.append(after)
        at += 1
    return points


def _points_behind(machine, flag, point, steps):
    """Return the list of the points behind a point's steps, each with 1 if a border ends with the step, else 0."""
    state, part = point
    found = []
    for sent, came in steps:
        after = machine[state][sent[0]] if sent else state
        if after is not None:
            begun, ended = follow(flag, part, came)
            found.append(((after, begun), 1 if ended else 0))
    return found


def _nearest_stream(machine):
    """Return the least number of flips that make a stream another one, and the least stream that has them."""
    flips = 1
    bits = _least_stream(machine, "flip", flips)
    # There always are two lists with streams as long, so this ends.
    while bits is None:
        flips += 1
        bits = _least_stream(machine, "flip", flips)
    return flips, bits


def _least_stream(machine, kind, many):
    """Return the least stream that so many flips, or one change of another kind, make another one, or None."""
    # Pairs of states, one for the stream and one for the changed one, with the changes that are left, and
    # the least words that lead to them; all words of one length at once.
    words = {pair: () for pair in _with_added(machine, kind, (0, 0, many))}
    seen = {}
    while words:
        ended = [words[pair] for pair in words if _may_end(machine, pair)]
        if ended:
            return min(ended)
        longer = {}
        for pair in words:
            seen[pair] = True
            for bit in (0, 1):
                word = words[pair] + (bit,)
                for after in _pairs_behind(machine, kind, pair, bit):
                    longer[after] = min(longer.get(after, word), word)
        words = {pair: longer[pair] for pair in longer if pair not in seen}
    return None


def _may_end(machine, pair):
    """Return whether at a pair both streams may end, with all changes made."""
    one, other, left = pair
    return left == 0 and machine[one][2] and machine[other][2]


def _pairs_behind(machine, kind, pair, bit):
    """Return the pairs behind a bit of the stream, with no change more or with one."""
    one, other, left = pair
    found = [(machine[one][bit], machine[other][bit], left)]
    if kind == "flip" and left > 0:
        found.append((machine[one][bit], machine[other][1 - bit], left - 1))
    if kind == "lose" and left > 0:
        found.append((machine[one][bit], other, left - 1))
    going = [after for after in found if after[0] is not None and after[1] is not None]
    return [added for after in going for added in _with_added(machine, kind, after)]


def _with_added(machine, kind, pair):
    """Return a pair, and for added bits those behind one that is put there into the changed stream."""
    one, other, left = pair
    if kind != "add" or left == 0:
        return [pair]
    return [pair] + [(one, after, left - 1) for after in machine[other][:2] if after is not None]


def _least_flipped(machine, bits, flips):
    """Return the least stream that so many flips make of a stream."""
    words = {(0, flips): ()}
    for bit in bits:
        longer = {}
        for state, left in words:
            for new in (0, 1):
                after = (machine[state][new], left if new == bit else left - 1)
                word = words[(state, left)] + (new,)
                if after[0] is not None and after[1] >= 0:
                    longer[after] = min(longer.get(after, word), word)
        words = longer
    return min([words[(state, left)] for state, left in words if left == 0 and machine[state][2]])
