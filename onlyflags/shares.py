"""Shares: how many bits are put in for the bits of a payload, at most.

What is put in behind a bit hangs on the tail ahead of it alone. So the tails
are a graph with two ways from each one, and the share is the greatest mean of
puts that a round in this graph has. A way is a tuple (bit, tail behind, puts).
"""

from math import gcd

from onlyflags.errors import InvalidFraction
from onlyflags.rules import is_number, is_word, need_length, need_rule, tails
from onlyflags.steps import behind_flag, put_table, send_on


def share(rule):
    """Return the share of a rule."""
    need_rule(rule)
    first, ways = _graph(rule)
    return _greatest_mean(first, ways)


def ring(rule):
    """Return the least lead, and the least round for it whose puts are the share of its length."""
    need_rule(rule)
    first, ways = _graph(rule)
    fraction = _greatest_mean(first, ways)
    numbers = _numbers(first, ways, fraction)
    # No step gains more than the numbers allow. So a round has just the share if each one gains just as much.
    tight = {
        tail: [way for way in ways[tail] if _gain(fraction, way) == numbers[way[1]] - numbers[tail]] for tail in ways
    }
    rounds = {tail: _walks(tight, tail).get(tail) for tail in ways}
    walks = _walks(ways, first)
    leads = [((), first)] + [(walks[tail], tail) for tail in walks]
    return [(lead, rounds[tail]) for lead, tail in leads if rounds[tail] is not None][0]


def most_put(rule, length):
    """Return the most puts of payloads of a length, and the first one of these that has them."""
    need_rule(rule)
    need_length(length)
    first, ways = _graph(rule)
    # The most puts behind each tail, by the number of bits to come.
    mosts = [{tail: 0 for tail in ways}]
    for left in range(length):
        mosts.append({tail: max(_puts_on(ways, mosts[left], tail)) for tail in ways})
    payload = []
    tail = first
    for left in reversed(range(length)):
        puts = _puts_on(ways, mosts[left], tail)
        bit, tail, _ = ways[tail][puts.index(max(puts))]
        payload.append(bit)
    return mosts[length][first], tuple(payload)


def share_table(rule):
    """Return the ascending list of the tails with the greatest numbers of payloads that lead to them."""
    need_rule(rule)
    first, ways = _graph(rule)
    numbers = _numbers(first, ways, _greatest_mean(first, ways))
    return sorted([(tail, numbers[tail]) for tail in numbers])


def is_share_table(rule, fraction, value):
    """Return whether any value is a share table of a rule and a fraction."""
    need_rule(rule)
    if not _is_fraction(fraction):
        raise InvalidFraction()
    table = put_table(rule[1])
    if not isinstance(value, list) or not all([_is_entry(table, entry) for entry in value]):
        return False
    numbers = {tail: number for tail, number in value}
    _, first = behind_flag(table, rule[0])
    if len(numbers) < len(value) or numbers.get(first, -1) < 0:
        return False
    return all([_holds(table, fraction, numbers, tail) for tail in numbers])


def is_less(one, other):
    """Return whether one fraction is less than another one."""
    return one[0] * other[1] < other[0] * one[1]


def _is_fraction(value):
    """Return whether any value is a fraction."""
    if not isinstance(value, tuple) or len(value) != 2:
        return False
    top, bottom = value
    return is_number(top) and is_number(bottom) and top >= 0 and bottom >= 1 and gcd(top, bottom) == 1


def _is_entry(table, value):
    """Return whether any value is a tuple of a tail and an integer."""
    if not isinstance(value, tuple) or len(value) != 2:
        return False
    tail, number = value
    return is_word(tail) and tail in table and is_number(number)


def _holds(table, fraction, numbers, tail):
    """Return whether the numbers behind a tail's bits are found, and are not below what they have to be."""
    for way in _ways_from(table, tail):
        if way[1] not in numbers or numbers[way[1]] < numbers[tail] + _gain(fraction, way):
            return False
    return True


def _graph(rule):
    """Return the tail behind the flag, and the ways from each tail that payloads lead to."""
    table = put_table(rule[1])
    _, first = behind_flag(table, rule[0])
    return first, {tail: _ways_from(table, tail) for tail in tails(rule)}


def _ways_from(table, tail):
    """Return the list of the ways by 0 and by 1 from a tail."""
    ways = []
    for bit in (0, 1):
        sent, after = send_on(table, tail, (bit,))
        ways.append((bit, after, len(sent) - 1))
    return ways


def _gain(fraction, way):
    """Return what a way adds to the number of its tail."""
    top, bottom = fraction
    return bottom * way[2] - top


def _greatest_mean(first, ways):
    """Return the greatest mean of puts over bits that a round has, by Karp's theorem."""
    mosts = [{first: 0}]
    for size in range(len(ways)):
        mosts.append(_most_by_tail(ways, mosts[size]))
    best = (0, 1)
    for tail in mosts[-1]:
        mean = _least_mean(mosts, tail)
        if is_less(best, mean):
            best = mean
    top, bottom = best
    return top // gcd(top, bottom), bottom // gcd(top, bottom)


def _most_by_tail(ways, puts):
    """Return the most puts by the tails one bit further on, from those by the tails that are reached."""
    further = {}
    for tail in puts:
        for _, after, more in ways[tail]:
            further[after] = max(further.get(after, 0), puts[tail] + more)
    return further


def _least_mean(mosts, tail):
    """Return the least mean of puts by which the longest walks to a tail are ahead of shorter ones."""
    last = len(mosts) - 1
    means = [(mosts[last][tail] - mosts[size][tail], last - size) for size in range(last) if tail in mosts[size]]
    least = means[0]
    for mean in means:
        if is_less(mean, least):
            least = mean
    return least


def _numbers(first, ways, fraction):
    """Return the greatest numbers, by tails, that walks from the first tail lead to."""
    numbers = {first: 0}
    # No round gains anything at the share, so no walk has to come to a tail twice.
    for _ in ways:
        for tail in list(numbers):
            for way in ways[tail]:
                number = numbers[tail] + _gain(fraction, way)
                numbers[way[1]] = max(numbers.get(way[1], number), number)
    return numbers


def _walks(ways, start):
    """Return, by tails, the least payloads of at least one bit that lead to them from a tail."""
    walks = {}
    queue = [((), start)]
    at = 0
    # First in, first out with 0 ahead of 1: payloads come by their length, then as tuples.
    while at < len(queue):
        payload, tail = queue[at]
        for bit, after, _ in ways[tail]:
            if after not in walks:
                walks[after] = payload + (bit,)
                queue.append((walks[after], after))
        at += 1
    return walks


def _puts_on(ways, mosts, tail):
    """Return the most puts behind a tail for each next bit, from those behind the tails there."""
    return [puts + mosts[after] for _, after, puts in ways[tail]]
