"""Clean rules: whether the flag stands at its places alone, for all payloads.

No text hangs on what was sent ahead of it, and a border that is no flag's place
ends ahead of the end of the next flag. So a list that breaks a rule holds one
payload that breaks it alone, and stands within a single payload tell it all.
"""

from onlyflags.errors import NotClean
from onlyflags.rules import is_number, is_word, need_rule
from onlyflags.steps import behind_flag, check_bits, follow, put_table, send_on


def is_clean(rule):
    """Return whether a rule is clean."""
    return breaking(rule) is None


def breaking(rule):
    """Return the least list of payloads whose stream has another border, None if there is none."""
    need_rule(rule)
    _, payload = _explore(rule)
    if payload is None:
        return None
    return [payload]


def clean_table(rule):
    """Return the ascending list of the fewest stands that are a clean table of a rule."""
    need_rule(rule)
    stands, payload = _explore(rule)
    if payload is not None:
        raise NotClean([payload])
    return sorted(stands)


def is_clean_table(rule, value):
    """Return whether any value is a clean table of a rule."""
    need_rule(rule)
    table = put_table(rule[1])
    if not isinstance(value, list) or not all([_is_stand(rule, table, stand) for stand in value]):
        return False
    stands = {stand: True for stand in value}
    first, broken = _first_stand(rule, table)
    if broken or first not in stands:
        return False
    return all([_holds(rule, table, stands, stand) for stand in stands])


def _is_stand(rule, table, value):
    """Return whether any value is a stand of a rule with a table of tails."""
    if not isinstance(value, tuple) or len(value) != 3:
        return False
    flag, _, check = rule
    tail, part, ones = value
    if not is_word(tail) or tail not in table or not is_word(part):
        return False
    begins = len(part) < len(flag) and flag[:len(part)] == part
    return begins and is_number(ones) and 0 <= ones < check


def _holds(rule, table, stands, stand):
    """Return whether a stand and its steps do not break, and lead to stands that are found."""
    if _stand_breaks(rule, table, stand):
        return False
    for bit in (0, 1):
        after, broken = _next_stand(rule, table, stand, bit)
        if broken or after not in stands:
            return False
    return True


def _explore(rule):
    """Return the stands that were found, and the least payload that breaks the rule or None."""
    table = put_table(rule[1])
    first, broken = _first_stand(rule, table)
    stands = {first: True}
    queue = [((), first, broken)]
    at = 0
    # First in, first out with 0 ahead of 1: payloads come by their length, then as tuples.
    while at < len(queue):
        payload, stand, broken = queue[at]
        if broken or _stand_breaks(rule, table, stand):
            return stands, payload
        for bit in (0, 1):
            after, broken = _next_stand(rule, table, stand, bit)
            if broken or after not in stands:
                stands[after] = True
                queue.append((payload + (bit,), after, broken))
        at += 1
    return stands, None


def _first_stand(rule, table):
    """Return the stand behind a flag, and whether the step to it breaks."""
    flag = rule[0]
    part, _ = follow(flag, (), flag)
    put, tail = behind_flag(table, flag)
    part, broken = follow(flag, part, put)
    return (tail, part, 0), broken


def _next_stand(rule, table, stand, bit):
    """Return the stand behind a bit of the payload, and whether the step to it breaks."""
    flag, _, check = rule
    tail, part, ones = stand
    sent, tail = send_on(table, tail, (bit,))
    part, broken = follow(flag, part, sent)
    return (tail, part, (ones + bit) % check), broken


def _stand_breaks(rule, table, stand):
    """Return whether the flag stands ahead of its place if the payload ends at a stand."""
    flag, _, check = rule
    tail, part, ones = stand
    sent, _ = send_on(table, tail, check_bits(check, ones))
    _, broken = follow(flag, part, sent + flag[:-1])
    return broken
