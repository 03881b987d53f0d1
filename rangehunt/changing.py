"""The cheapest changes of a bench by which hopes come true."""

from rangehunt.always import alone, calm, comes, keeps, shows_alone, shows_calm, shows_comes, shows_keeps
from rangehunt.basics import ascending, is_integer, is_same
from rangehunt.benches import Bench
from rangehunt.errors import BadBench, BadHopes, BadOffers, BadSetting, TooMany
from rangehunt.resting import is_told

MOST_OFFERS = 4
MOST_PRICE = 9
MOST_HOPES = 3
HOPES = (("calm", 2), ("one", 2), ("keeps", 2), ("never", 3))


def is_offer(value, many):
    """Whether this is (line, text, price), for a bench of so many lines."""
    if not isinstance(value, tuple) or len(value) != 3:
        return False
    line, text, price = value
    if not is_integer(line) or not isinstance(text, str) or not is_integer(price):
        return False
    return 1 <= line <= many and 1 <= price <= MOST_PRICE


def need_offers(bench, offers):
    """Refuse what is no ascending tuple of offers."""
    if not isinstance(offers, tuple) or not 1 <= len(offers) <= MOST_OFFERS:
        raise BadOffers(offers)
    many = len(bench.text.split("\n"))
    if not all([is_offer(offer, many) for offer in offers]):
        raise BadOffers(offers)
    if not all([offers[at] < offers[at + 1] for at in range(len(offers) - 1)]):
        raise BadOffers(offers)


def is_hope(bench, value):
    """Whether this is a word with as many settings as it tells of."""
    if not isinstance(value, tuple) or len(value) == 0 or (value[0], len(value)) not in HOPES:
        return False
    return all([setting in bench.settings for setting in value[1:]])


def need_hopes(bench, hopes):
    """Refuse what is no tuple of hopes."""
    if not isinstance(hopes, tuple) or not 1 <= len(hopes) <= MOST_HOPES:
        raise BadHopes(hopes)
    if not all([is_hope(bench, hope) for hope in hopes]):
        raise BadHopes(hopes)
    if any([hopes[at] in hopes[:at] for at in range(len(hopes))]):
        raise BadHopes(hopes)


def choices_of(offers):
    """All choices with their prices, (price, choice), in their sequence."""
    found = [(0, 0, ())]
    for offer in offers:
        line, _, price = offer
        further = []
        for total, many, choice in found:
            if line not in [row[0] for row in choice]:
                further.append((total + price, many + 1, (*choice, offer)))
        found = found + further
    return [(total, choice) for total, _, choice in ascending(found)]


def changed_text(bench, choice):
    """The text of the bench with all lines of the choice replaced at once."""
    texts = {line: text for line, text, _ in choice}
    rows = []
    for at, line in enumerate(bench.text.split("\n")):
        row = texts.get(at + 1, line)
        if row != "":
            rows.append(row)
    return "\n".join(rows)


def told_of(bench, hope):
    """What the function of this hope tells of the bench."""
    if hope[0] == "calm":
        return calm(bench, hope[1])
    if hope[0] == "one":
        return alone(bench, hope[1])
    if hope[0] == "keeps":
        return keeps(bench, hope[1])
    return comes(bench, hope[1], hope[2])


def shows_told_of(bench, hope, value):
    """Whether any value is such as the function of this hope tells."""
    if hope[0] == "calm":
        return shows_calm(bench, hope[1], value)
    if hope[0] == "one":
        return shows_alone(bench, hope[1], value)
    if hope[0] == "keeps":
        return shows_keeps(bench, hope[1], value)
    return shows_comes(bench, hope[1], hope[2], value)


def counted(bench, choice, hopes):
    """(changed bench, what is told of it for each hope), None if the choice
    does not count."""
    try:
        changed = Bench(changed_text(bench, choice))
        return changed, tuple([told_of(changed, hope) for hope in hopes])
    except (BadBench, BadSetting, TooMany):
        return None


def failing(hopes, told):
    """The index of the first hope that does not come true by what is told, None
    if all do."""
    for at, hope in enumerate(hopes):
        if told[at][0] != hope[0]:
            return at
    return None


def is_reason(changed, choice, hopes, value):
    """Whether this tells of a hope that does not come true by this choice."""
    if not isinstance(value, tuple) or len(value) != 3 or not is_same(value[0], choice):
        return False
    at = value[1]
    if not is_integer(at) or not 0 <= at < len(hopes):
        return False
    return shows_told_of(changed, hopes[at], value[2]) and value[2][0] != hopes[at][0]


def are_reasons(counting, hopes, value):
    """Whether this is a tuple of reasons, one for each of the choices that
    count, (changed bench, choice), in their sequence."""
    if not isinstance(value, tuple) or len(value) != len(counting):
        return False
    return all([
        is_reason(changed, choice, hopes, reason) for (changed, choice), reason in zip(counting, value)
    ])


def is_evidence(changed, hopes, value):
    """Whether this tells of each hope that it comes true on the changed bench."""
    if not isinstance(value, tuple) or len(value) != len(hopes):
        return False
    return all([
        shows_told_of(changed, hope, told) and told[0] == hope[0] for hope, told in zip(hopes, value)
    ])


def cheapest(bench, offers, hopes):
    """("choice", price, choice, evidence, reasons) with the first choice by
    which all hopes come true, or ("none", reasons) if there is none."""
    need_offers(bench, offers)
    need_hopes(bench, hopes)
    reasons = []
    for price, choice in choices_of(offers):
        found = counted(bench, choice, hopes)
        if found is not None:
            told = found[1]
            at = failing(hopes, told)
            if at is None:
                return ("choice", price, choice, told, tuple(reasons))
            reasons.append((choice, at, told[at]))
    return ("none", tuple(reasons))


def shows_cheapest(bench, offers, hopes, value):
    """Whether any value is such as cheapest tells."""
    need_offers(bench, offers)
    need_hopes(bench, hopes)
    is_choice = is_told(value, "choice", 5)
    if not is_choice and not is_told(value, "none", 2):
        return False
    ahead = []
    for price, choice in choices_of(offers):
        found = counted(bench, choice, hopes)
        if found is not None and is_choice and is_same(value[2], choice):
            if not is_same(value[1], price) or not is_evidence(found[0], hopes, value[3]):
                return False
            return are_reasons(ahead, hopes, value[4])
        if found is not None:
            ahead.append((found[0], choice))
    return not is_choice and are_reasons(ahead, hopes, value[1])
