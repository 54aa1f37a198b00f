"""Why a row is there: the least sets of tokens that suffice, and those whose loss loses it."""

from ledgertrace.errors import TooMany

MOST_SETS = 400


def witnesses(p):
    """The least sets of tokens of which all tokens of some term stand in one."""
    return least_lacking(p, {})


def there_with(p, tokens):
    """Whether some least witness lies within these tokens."""
    return lies_within(p, {token: True for token in tokens})


def lies_within(p, held):
    """Whether the tokens of some term are all in the dict held."""
    return any([all([pair[0] in held for pair in term[0]]) for term in p])


def least_lacking(p, held):
    """The least sets of tokens that, beside those in the dict held, some term of p needs."""
    return _least_sets([tuple([pair[0] for pair in term[0] if pair[0] not in held]) for term in p])


def set_order(tokens):
    """What sets of tokens are ordered by: their size, then as tuples."""
    return (len(tokens), tokens)


def _least_sets(sets):
    """Those of the sets, rising tuples, of which no other one is a part."""
    bits = _bits_of(sets)
    found = []
    masks = []
    for tokens in sorted({each: True for each in sets}, key=set_order):
        mask = _mask(tokens, bits)
        if not any([(other & mask) == other for other in masks]):
            found.append(tokens)
            masks.append(mask)
    return tuple(found)


def _bits_of(sets):
    """For each token in the sets, rising, a number with a bit of its own."""
    tokens = sorted({token for each in sets for token in each})
    return {token: 1 << at for at, token in enumerate(tokens)}


def _mask(tokens, bits):
    """The set of these tokens as a number."""
    return sum([bits[token] for token in tokens])


def needed(p):
    """The tokens that stand in every least witness."""
    sets = witnesses(p)
    if not sets:
        return ()
    return tuple([token for token in sets[0] if all([token in each for each in sets])])


def breakers(p):
    """The least sets of tokens that meet every least witness."""
    sets = witnesses(p)
    bits = _bits_of(sets)
    masks = [0]
    for witness in sets:
        masks = _met_besides(masks, [bits[token] for token in witness])
    found = [tuple([token for token in bits if bits[token] & mask]) for mask in masks]
    return tuple(sorted(found, key=set_order))


def _met_besides(masks, bits):
    """The least sets that meet what the sets of masks are the least to meet, and these bits, too."""
    whole = sum(bits)
    meeting = [mask for mask in masks if mask & whole]
    lacking = [mask for mask in masks if not mask & whole]
    found = list(meeting)
    for bit in bits:
        # Of the sets that meet all, only such as have this bit can lie within one that grows by it.
        parts = [mask for mask in meeting if mask & bit]
        for mask in lacking:
            grown = mask | bit
            if not any([(part & grown) == part for part in parts]):
                found.append(grown)
        # None of these is lost by a later bit: as soon as they are too many, they stay so.
        if len(found) > MOST_SETS:
            raise TooMany("sets")
    return found
