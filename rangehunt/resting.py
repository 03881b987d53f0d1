"""Rests and rings: where the steps of the meters end on a source, or go round.

The ways of a source are a dict of all settings, in ascending sequence: to each
setting those behind its possible steps, by these steps.
"""

from rangehunt.stepping import moves_of, need_setting, reaches


def ways_on(moves, source):
    """The ways of the source, for these moves of a bench."""
    is_reached = {}
    ways = {}
    for setting in moves:
        ways[setting] = {}
        for step, behind, line, is_up in moves[setting]:
            if line not in is_reached:
                is_reached[line] = reaches(source, line)
            if is_reached[line] == is_up:
                ways[setting][step] = behind
    return ways


def trails(ways, setting):
    """The settings that come from this one, each with a row that leads to it."""
    rows = {setting: ()}
    found = [setting]
    at = 0
    while at < len(found):
        here = found[at]
        for step, behind in ways[here].items():
            if behind not in rows:
                rows[behind] = (*rows[here], step)
                found.append(behind)
        at += 1
    return rows


def ascending_of(ways, chosen):
    """The ascending tuple of the settings that are keys of chosen."""
    return tuple([setting for setting in ways if setting in chosen])


def rests_of(ways, chosen):
    """The ascending tuple of the rests that are keys of chosen."""
    return tuple([setting for setting in ways if setting in chosen and not ways[setting]])


def order_of(ways, chosen):
    """The keys of chosen from which no row of steps goes on for ever, each one
    ahead of those behind its steps. (The keys of chosen have all of these.)"""
    ahead = {setting: [] for setting in chosen}
    left = {}
    for setting in chosen:
        left[setting] = len(ways[setting])
        for behind in ways[setting].values():
            ahead[behind].append(setting)
    placed = [setting for setting in chosen if left[setting] == 0]
    at = 0
    while at < len(placed):
        here = placed[at]
        for setting in ahead[here]:
            left[setting] -= 1
            if left[setting] == 0:
                placed.append(setting)
        at += 1
    return tuple(placed[::-1])


def endless(ways, setting, calm):
    """(row, ring): steps from this setting that never lead to one of calm."""
    first = {}
    row = []
    here = setting
    while here not in first:
        first[here] = len(row)
        # What is not calm has a step to a further one that is not.
        onward = [step for step in ways[here] if ways[here][step] not in calm]
        row.append(onward[0])
        here = ways[here][onward[0]]
    return tuple(row[:first[here]]), tuple(row[first[here]:])


def ring_of(ways, setting):
    """What ring tells of the source with these ways."""
    found = trails(ways, setting)
    order = order_of(ways, found)
    if len(order) == len(found):
        return ("calm", order)
    row, around = endless(ways, setting, {one: True for one in order})
    return ("hunts", row, around)


def is_told(value, word, many):
    """Whether this is a tuple of so many, the first of them this word."""
    return isinstance(value, tuple) and len(value) == many and value[0] == word


def is_of_words(value):
    """Whether this is a tuple of strings."""
    return isinstance(value, tuple) and all([isinstance(word, str) for word in value])


def is_place(ways, value):
    """Whether this is one of the settings of which the ways are."""
    if not isinstance(value, tuple) or not all([is_of_words(part) for part in value]):
        return False
    return value in ways


def are_places(ways, value):
    """Whether this is a tuple of settings."""
    return isinstance(value, tuple) and all([is_place(ways, one) for one in value])


def end_of(ways, setting, row):
    """The setting behind the row, None if this is no row of possible steps."""
    if not isinstance(row, tuple):
        return None
    here = setting
    for step in row:
        if not is_of_words(step) or step not in ways[here]:
            return None
        here = ways[here][step]
    return here


def is_order(ways, setting, value):
    """Whether this is an order as ring tells it."""
    found = trails(ways, setting)
    if not are_places(ways, value) or len(value) != len(found):
        return False
    place = {one: at for at, one in enumerate(value)}
    if not all([one in place for one in found]):
        return False
    return all([place[one] < place[behind] for one in found for behind in ways[one].values()])


def is_ring(ways, setting, row, around):
    """Whether these are a row and a ring as ring tells them."""
    start = end_of(ways, setting, row)
    return start is not None and around != () and end_of(ways, start, around) == start


def is_ring_of(ways, setting, told):
    """Whether this is right as what ring tells of the source with these ways."""
    if is_told(told, "calm", 2):
        return is_order(ways, setting, told[1])
    return is_told(told, "hunts", 3) and is_ring(ways, setting, told[1], told[2])


def reached(bench, setting, source):
    """The ascending tuple of the settings that come from this one."""
    need_setting(bench, setting)
    ways = ways_on(moves_of(bench), source)
    return ascending_of(ways, trails(ways, setting))


def rests(bench, setting, source):
    """The ascending tuple of the rests that come from this setting."""
    need_setting(bench, setting)
    ways = ways_on(moves_of(bench), source)
    return rests_of(ways, trails(ways, setting))


def ring(bench, setting, source):
    """("calm", order), or ("hunts", row, ring) if the steps may never end."""
    need_setting(bench, setting)
    return ring_of(ways_on(moves_of(bench), source), setting)


def shows_ring(bench, setting, source, value):
    """Whether any value is such as ring tells."""
    need_setting(bench, setting)
    return is_ring_of(ways_on(moves_of(bench), source), setting, value)
