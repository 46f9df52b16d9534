"""Finding rules: which inserts of one word make a clean rule for a flag, and which of these put least in."""

from onlyflags.clean import is_clean
from onlyflags.errors import InvalidFlag
from onlyflags.rules import is_full_word
from onlyflags.shares import is_less, share


def clean_words(flag):
    """Return the ascending list of all inserts of one word that make a clean rule with a flag and the check 1."""
    if not is_full_word(flag):
        raise InvalidFlag()
    inserts = [((word, bit),) for word in _words(len(flag)) for bit in (0, 1)]
    return sorted([one for one in inserts if is_clean((flag, one, 1))])


def best_rules(flag):
    """Return the ascending list of those of these rules whose share is least."""
    rules = [(flag, inserts, 1) for inserts in clean_words(flag)]
    shares = [share(rule) for rule in rules]
    least = _least(shares)
    return [rule for rule, own in zip(rules, shares) if own == least]


def _words(most):
    """Return the list of all words of 1 to most bits."""
    words = []
    last = [()]
    for _ in range(most):
        last = [word + (bit,) for word in last for bit in (0, 1)]
        words.extend(last)
    return words


def _least(fractions):
    """Return the least of some fractions, None if there is none."""
    least = None
    for fraction in fractions:
        if least is None or is_less(fraction, least):
            least = fraction
    return least
