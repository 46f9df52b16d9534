"""A slow second reading of the document, word by word, to hold the program against."""

from fractions import Fraction
from itertools import product


A = ((0, 1, 1, 0), (((1,), 0),), 2)
B = ((1, 0, 1), (((1, 0), 0),), 1)
C = ((1, 0, 1, 0), (((1, 0, 1), 1),), 1)

ZERO, ONE, END = 0, 1, 2


def words(least, most):
    """All words of least to most bits, by their length, then as tuples."""
    return [word for size in range(least, most + 1) for word in product((0, 1), repeat=size)]


def small_rules(most_flag=3, checks=(1, 2, 3)):
    """Rules of all flags of up to most_flag bits with no insert, with one, and with some pairs."""
    parts = [((word, bit),) for word in words(1, 2) for bit in (0, 1)]
    pairs = [
        (((1,), 0), ((1, 0), 1)),
        (((1,), 1), ((1, 1), 0)),
        (((0, 1), 0), ((1,), 1)),
        (((0,), 1), ((1,), 0)),
        (((0, 0, 1), 1), ((0, 1), 0)),
        (((1, 0, 1), 0), ((1, 1), 0)),
        (((0, 1, 1), 0),),
        (((0, 1), 1), ((0, 1, 1, 0), 0)),
    ]
    for flag in words(1, most_flag):
        for inserts in [(), *parts, *pairs]:
            for check in checks:
                yield flag, inserts, check


def lists_by_signs(most):
    """All lists of payloads of at most so many signs, in the order of the document."""
    for count in range(most + 1):
        for row in product((ZERO, ONE, END), repeat=count):
            if not row or row[-1] == END:
                yield payloads_of(row)


def payloads_of(row):
    payloads, last = [], ()
    for sign in row:
        if sign == END:
            payloads.append(last)
            last = ()
        else:
            last = last + (sign,)
    return payloads


def ends_with(row, word):
    return len(word) <= len(row) and tuple(row[len(row) - len(word):]) == word


def put_behind(rule, text):
    """The bit that is put in behind a text as a tuple of one bit, or ()."""
    fitting = [(len(word), bit) for word, bit in rule[1] if ends_with(text, word)]
    return (max(fitting)[1],) if fitting else ()


def width_of(check):
    width = 0
    while 2 ** width < check:
        width += 1
    return width


def letter_of(rule, payload):
    rest, bits = payload.count(1) % rule[2], ()
    for _ in range(width_of(rule[2])):
        bits = (rest % 2,) + bits
        rest //= 2
    return payload + bits


def sending(rule, bits):
    """The flag and bits behind it, with all that is put in."""
    text = rule[0] + put_behind(rule, rule[0])
    for bit in bits:
        text = text + (bit,)
        text = text + put_behind(rule, text)
    return text


def frame_of(rule, payload):
    return sending(rule, letter_of(rule, payload))


def stream_of(rule, payloads):
    out = ()
    for payload in payloads:
        out = out + frame_of(rule, payload)
    return out + rule[0]


def flag_places(rule, payloads):
    places, at = [0], 0
    for payload in payloads:
        at += len(frame_of(rule, payload))
        places.append(at)
    return places


def borders_of(rule, bits):
    return [at for at in range(len(bits)) if bits[at:at + len(rule[0])] == rule[0]]


def breaks(rule, payloads):
    return borders_of(rule, stream_of(rule, payloads)) != flag_places(rule, payloads)


def beginnings(rule):
    return {()} | {word[:size] for word, _ in rule[1] for size in range(len(word) + 1)}


def tail_of(rule, text):
    return max((word for word in beginnings(rule) if ends_with(text, word)), key=len)


def part_of(rule, text):
    flag = rule[0]
    return max((flag[:size] for size in range(len(flag)) if ends_with(text, flag[:size])), key=len)


def stands_of(rule, most):
    """The stands behind a flag and behind all payloads of at most so many bits."""
    found = set()
    for payload in words(0, most):
        text = sending(rule, payload)
        found.add((tail_of(rule, text), part_of(rule, text), payload.count(1) % rule[2]))
    return sorted(found)


def body_answers(rule, most):
    """A dict of the answers to all bodies that a sender begins with letters of at most so many bits."""
    told = {}
    flag = rule[0]
    if put_behind(rule, flag):
        told[()] = "short"
    for bits in words(0, most):
        text = sending(rule, bits)
        size = len(bits) - width_of(rule[2])
        right = size >= 0 and letter_of(rule, bits[:size]) == bits
        told[text[len(flag):]] = bits[:size] if right else "check"
        if bits:
            sent_before = sending(rule, bits[:-1])
            if len(text) == len(sent_before) + 2:
                told[text[len(flag):-1]] = "short"
    return told


def all_stands(rule):
    flag = rule[0]
    return [
        (tail, flag[:size], ones)
        for tail in sorted(beginnings(rule)) for size in range(len(flag)) for ones in range(rule[2])
    ]


def sent_from(rule, tail, bits):
    """The bits that go out from a tail, and the tail behind them."""
    out = ()
    for bit in bits:
        tail = tail_of(rule, tail + (bit,))
        put = put_behind(rule, tail)
        tail = tail_of(rule, tail + put)
        out = out + (bit,) + put
    return out, tail


def flag_ends(rule, row, start):
    """Whether the flag ends in a row at a bit from the index start on."""
    return any(ends_with(row[:end], rule[0]) for end in range(start + 1, len(row) + 1))


def is_table(rule, stands):
    """Whether a list of stands, which all are stands, is a clean table."""
    flag, _, check = rule
    put = put_behind(rule, flag)
    text = flag + put
    first = (tail_of(rule, text), part_of(rule, text), 0)
    if first not in stands or flag_ends(rule, text, len(flag)):
        return False
    for tail, part, ones in stands:
        checked = letter_of((flag, (), check), (1,) * ones)[ones:]
        row = part + sent_from(rule, tail, checked)[0] + flag
        if flag_ends(rule, row[:-1], len(part)):
            return False
        for bit in (0, 1):
            sent, after = sent_from(rule, tail, (bit,))
            row = part + sent
            if flag_ends(rule, row, len(part)):
                return False
            if (after, part_of(rule, row), (ones + bit) % check) not in stands:
                return False
    return True


def puts_of(rule, payload):
    """The number of bits that are put in behind the payload's own bits."""
    return len(sending(rule, payload)) - len(rule[0] + put_behind(rule, rule[0])) - len(payload)


def tail_behind(rule, payload):
    """The tail behind the bits of a payload, with what is put in there."""
    return tail_of(rule, sending(rule, payload))


def tails_of(rule):
    """The tails behind the flag and behind payloads, each payload being followed while it leads to a new one."""
    found, queue = {tail_behind(rule, ()): ()}, [()]
    for payload in queue:
        for bit in (0, 1):
            tail = tail_behind(rule, payload + (bit,))
            if tail not in found:
                found[tail] = payload + (bit,)
                queue.append(payload + (bit,))
    return found


def share_of(rule):
    """The greatest mean of puts over bits of the rounds from a tail to itself, as a Fraction."""
    leads = tails_of(rule)
    means = []
    for tail, lead in leads.items():
        for turn in words(1, len(leads)):
            if tail_behind(rule, lead + turn) == tail:
                means.append(Fraction(puts_of(rule, lead + turn) - puts_of(rule, lead), len(turn)))
    return max(means)


def ring_of(rule):
    """The least lead, and the least round for it with just the share, by going through all."""
    leads = tails_of(rule)
    share = share_of(rule)
    for lead in words(0, len(leads)):
        for turn in words(1, len(leads)):
            gained = puts_of(rule, lead + turn) - puts_of(rule, lead)
            if gained == share * len(turn) and tail_behind(rule, lead + turn) == tail_behind(rule, lead):
                return lead, turn
    return None


def numbers_of(rule, fraction, most):
    """The greatest numbers by tails over all payloads of at most so many bits."""
    top, bottom = fraction
    numbers = {}
    for payload in words(0, most):
        tail, number = tail_behind(rule, payload), bottom * puts_of(rule, payload) - top * len(payload)
        numbers[tail] = max(numbers.get(tail, number), number)
    return sorted(numbers.items())


def is_share_list(rule, fraction, entries):
    """Whether a list of tails with numbers, which all are such, is a share table."""
    top, bottom = fraction
    numbers = dict(entries)
    if len(numbers) != len(entries) or numbers.get(tail_behind(rule, ()), -1) < 0:
        return False
    for tail, number in entries:
        for bit in (0, 1):
            sent, after = sent_from(rule, tail, (bit,))
            if after not in numbers or numbers[after] < number - top + bottom * (len(sent) - 1):
                return False
    return True


def signs_of(payloads):
    return tuple(sign for payload in payloads for sign in (*payload, END))


def lists_by_length(rule, most):
    """The lists of payloads with streams of at most so many bits, by the lengths, as rows of signs."""
    found = {length: [] for length in range(most + 1)}
    rows = [()]
    while rows:
        longer = []
        for row in rows:
            if not row or row[-1] == END:
                size = len(stream_of(rule, payloads_of(row)))
                if size > most:
                    continue
                found[size].append(row)
            elif len(stream_of(rule, payloads_of(row + (END,)))) > most + 2 * width_of(rule[2]):
                continue
            longer.extend(row + (sign,) for sign in (ZERO, ONE, END))
        rows = longer
    return {length: [payloads_of(row) for row in sorted(rows)] for length, rows in found.items()}


def many_bits(count, step):
    """A word of count bits that looks irregular, and is always the same one."""
    bits, state = [], step
    for _ in range(count):
        state = (state * 1103515245 + 12345) % 2 ** 31
        bits.append(state >> 16 & 1)
    return tuple(bits)


class IntLike:
    """Is equal to 1 and 0 alike, but is no integer."""

    def __eq__(self, other):
        return True

    def __hash__(self):
        return 1


NO_WORDS = [
    None, 0, 1, True, "", "01", b"\x00\x01", [], [0, 1], {}, {0: 1}, {0, 1}, range(2), 0.5, object(), IntLike(),
    (2,), (-1,), (0, 1, 2), (True,), (False,), (0, True), (0.0,), (1.0,), ("0",), (None,), ((0,),), ([],),
    (IntLike(),), int, len, tuple,
]

NO_RULES = [
    None, 0, 1, True, "", "0110", [], (), (0, 1), ((0, 1),), ((0, 1), ()), ((0, 1), (), 1, 1), [(0, 1), (), 1],
    ((), (), 1), ([0, 1], (), 1), ("01", (), 1), ((0, 2), (), 1), ((True,), (), 1), ((0, 1.0), (), 1), (0, (), 1),
    (None, (), 1), ((IntLike(),), (), 1),
    ((0, 1), [], 1), ((0, 1), None, 1), ((0, 1), {}, 1), ((0, 1), "", 1), ((0, 1), 0, 1),
    ((0, 1), ((1,), 0), 1), ((0, 1), ([(1,), 0],), 1), ((0, 1), (((1,),),), 1), ((0, 1), (((1,), 0, 0),), 1),
    ((0, 1), (((), 0),), 1), ((0, 1), (([1], 0),), 1), ((0, 1), (((1,), 2),), 1), ((0, 1), (((1,), True),), 1),
    ((0, 1), (((1,), 0.0),), 1), ((0, 1), (((1,), None),), 1), ((0, 1), (((True,), 0),), 1), ((0, 1), ((1, 0),), 1),
    ((0, 1), (((3,), 0),), 1), ((0, 1), (((1,), IntLike()),), 1), ((0, 1), (((1,), (0,)),), 1), ((0, 1), (None,), 1),
    ((0, 1), (((1,), 0), ((0,), 0)), 1), ((0, 1), (((1,), 0), ((1,), 0)), 1), ((0, 1), (((1,), 0), ((1,), 1)), 1),
    ((0, 1), (((1, 0), 0), ((1,), 0)), 1), ((0, 1), (((0,), 0), ((1,), 0), ((0, 1), 0)), 1),
    ((0, 1), (), 0), ((0, 1), (), -1), ((0, 1), (), True), ((0, 1), (), 1.0), ((0, 1), (), None),
    ((0, 1), (), "1"), ((0, 1), (), (1,)), ((0, 1), (), IntLike()), int, len, object(),
]
