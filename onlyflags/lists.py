"""Lists of payloads: whether two rules send the same for all, and how many there are."""

from onlyflags.errors import InvalidIndex
from onlyflags.rules import is_number, need_length, need_rule, stream
from onlyflags.steps import BEHIND_FLAG, END, sign_steps


def alike(one, other):
    """Return whether two rules give the same stream for each list of payloads."""
    return parting(one, other) is None


def parting(one, other):
    """Return the least list of payloads for which the streams are unlike, None if there is none."""
    need_rule(one)
    need_rule(other)
    if one[0] != other[0]:
        return []
    # With one flag, the streams of a list are unlike only if those of one of its payloads alone are.
    return _least_parting(sign_steps(one), sign_steps(other))


def count_lists(rule, length):
    """Return how many lists of payloads have a stream of a length."""
    need_rule(rule)
    need_length(length)
    return _all_lists(_counts(sign_steps(rule), length - len(rule[0])))


def nth_list(rule, length, index):
    """Return the list of payloads with an index among those with a stream of a length."""
    need_rule(rule)
    need_length(length)
    steps = sign_steps(rule)
    left = length - len(rule[0])
    counts = _counts(steps, left)
    if not is_number(index) or not 0 <= index < _all_lists(counts):
        raise InvalidIndex()
    place = BEHIND_FLAG
    payloads = []
    payload = ()
    while left > 0:
        sign, index = _sign_at(_counts_by_sign(steps, counts, place, left), index)
        bits, place = steps[place][sign]
        left = left - len(bits)
        if sign == END:
            payloads.append(payload)
            payload = ()
        else:
            payload = payload + (sign,)
    return payloads


def list_index(rule, payloads):
    """Return the index of a list among those with streams as long as its own."""
    left = len(stream(rule, payloads)) - len(rule[0])
    steps = sign_steps(rule)
    counts = _counts(steps, left)
    place = BEHIND_FLAG
    index = 0
    signs = [one for payload in payloads for one in (*payload, END)]
    for sign in signs:
        index = index + sum(_counts_by_sign(steps, counts, place, left)[:sign])
        bits, place = steps[place][sign]
        left = left - len(bits)
    return index


def _least_parting(steps, others):
    """Return the least payload, alone in a list, whose streams are unlike by the steps of two rules, or None."""
    start = (BEHIND_FLAG, BEHIND_FLAG, (), ())
    found = {start: True}
    queue = [((), start)]
    at = 0
    # First in, first out with 0 ahead of 1: payloads come by their length, then as tuples.
    while at < len(queue):
        payload, state = queue[at]
        _, _, ahead, behind = _step_both(steps, others, state, END)
        if ahead + behind:
            return [payload]
        for bit in (0, 1):
            after = _step_both(steps, others, state, bit)
            if after not in found:
                found[after] = True
                queue.append((payload + (bit,), after))
        at += 1
    return None


def _step_both(steps, others, state, sign):
    """Return the places of two senders behind a sign, and what each has sent that the other has not."""
    place, other, ahead, behind = state
    bits, place = steps[place][sign]
    more, other = others[other][sign]
    ahead, behind = ahead + bits, behind + more
    same = 0
    while same < min(len(ahead), len(behind)) and ahead[same] == behind[same]:
        same += 1
    return place, other, ahead[same:], behind[same:]


def _counts(steps, most):
    """Return, by the number of bits to come and the place, how many rows of signs go on so."""
    counts = []
    for left in range(most + 1):
        here = {place: sum(_counts_by_sign(steps, counts, place, left)) for place in steps}
        if left == 0:
            # Behind a flag a list may end.
            here[BEHIND_FLAG] = 1
        counts.append(here)
    return counts


def _counts_by_sign(steps, counts, place, left):
    """Return how many rows of signs go on by a 0, a 1 and an end from a place with so many bits to come."""
    return [counts[left - len(bits)][after] if len(bits) <= left else 0 for bits, after in steps[place]]


def _all_lists(counts):
    """Return how many lists there are, none for a stream that is shorter than the flag."""
    return counts[-1][BEHIND_FLAG] if counts else 0


def _sign_at(counts, index):
    """Return the next sign of the row with an index, and its index among the rows that go on so."""
    sign = 0
    while index >= counts[sign]:
        index = index - counts[sign]
        sign += 1
    return sign, index
