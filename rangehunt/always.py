"""What holds whatever the source, told with evidence for each class of sources.

Each question is answered on one source first, by its ways: (word, ..), a word
with its evidence. If the word is the same steady one on a source of each class,
all of this is told in rows; otherwise what was told of one source, with it.
"""

from rangehunt.classes import are_samples, lines_of, samples_of
from rangehunt.resting import are_places, ascending_of, end_of, is_ring_of, is_told, rests_of, ring_of
from rangehunt.resting import trails, ways_on
from rangehunt.sources import Source
from rangehunt.stepping import moves_of, need_setting, turned


def on_all(rows, steady, tell):
    """(steady, rows) if tell, which is handed a source of each class of the
    lines rows, tells this word of them all; otherwise (word, source, ..) of one."""
    found = []
    for source in samples_of(rows):
        told = tell(source)
        if told[0] != steady:
            return (told[0], source, *told[1:])
        found.append((source, told[1]))
    return (steady, tuple(found))


def are_rows(rows, many, value):
    """Whether this is a tuple of pairs, with a source of each class of the
    lines rows, of which there are so many, at their heads."""
    if not isinstance(value, tuple) or not all([isinstance(row, tuple) and len(row) == 2 for row in value]):
        return False
    return are_samples(rows, many, [row[0] for row in value])


def shows_on_all(rows, steady, value, is_right):
    """Whether any value is such as on_all tells, is_right telling of a source
    and any (word, ..) whether it is right there."""
    many = len(samples_of(rows))
    if is_told(value, steady, 2):
        if not are_rows(rows, many, value[1]):
            return False
        return all([is_right(source, (steady, told)) for source, told in value[1]])
    if not isinstance(value, tuple) or len(value) < 2 or value[0] == steady:
        return False
    return isinstance(value[1], Source) and is_right(value[1], (value[0], *value[2:]))


def on_bench(bench, steady, tell):
    """What on_all tells of the classes of the bench, tell being handed the ways."""
    moves = moves_of(bench)
    return on_all(lines_of(moves), steady, lambda source: tell(ways_on(moves, source)))


def shows_on_bench(bench, steady, value, is_right):
    """Whether any value is such as on_bench tells, is_right being handed the ways."""
    moves = moves_of(bench)
    return shows_on_all(
        lines_of(moves), steady, value, lambda source, told: is_right(ways_on(moves, source), told)
    )


def is_rest(ways, setting):
    """Whether this is a setting, and a rest."""
    return setting is not None and len(ways[setting]) == 0


def is_kept(ways, setting, value):
    """Whether this is an ascending tuple of settings that has setting and,
    with each of its settings, those behind its ways."""
    if not are_places(ways, value):
        return False
    chosen = {one: True for one in value}
    if setting not in chosen or value != ascending_of(ways, chosen):
        return False
    return all([behind in chosen for one in value for behind in ways[one].values()])


def coming_of(ways, setting, goal):
    """What comes tells of the source with these ways."""
    found = trails(ways, setting)
    if goal in found and is_rest(ways, goal):
        return ("comes", found[goal])
    return ("never", ascending_of(ways, found))


def is_coming_of(ways, setting, goal, told):
    """Whether this is right as what comes tells of the source with these ways."""
    if is_told(told, "never", 2):
        return is_kept(ways, setting, told[1]) and (goal not in told[1] or not is_rest(ways, goal))
    return is_told(told, "comes", 2) and end_of(ways, setting, told[1]) == goal and is_rest(ways, goal)


def goals_of(ways, setting):
    """What alone tells of the source with these ways."""
    found = trails(ways, setting)
    goals = rests_of(ways, found)
    if len(goals) > 1:
        return ("two", found[goals[0]], found[goals[1]])
    return ("one", goals)


def are_goals_of(ways, setting, told):
    """Whether this is right as what alone tells of the source with these ways."""
    if is_told(told, "one", 2):
        return goals_of(ways, setting) == told
    if not is_told(told, "two", 3):
        return False
    one, other = [end_of(ways, setting, row) for row in told[1:]]
    return is_rest(ways, one) and is_rest(ways, other) and one != other


def hands_of(bench):
    """The settings behind the turning of each load, by tuples of one load, by
    the settings in which it is turned."""
    hands = {}
    for setting in bench.settings:
        hands[setting] = {(load,): turned(bench, setting, load) for load in bench.loads}
    return hands


def with_hands(ways, hands):
    """The ways by which meters and hands come on."""
    deeds = {}
    for setting in ways:
        deeds[setting] = {}
        for table in (ways, hands):
            for deed, behind in table[setting].items():
                deeds[setting][deed] = behind
    return deeds


def moved_to(ways, setting, chosen):
    """The rests among the keys of chosen in which just the loads of setting are
    on, but which do not come from setting by steps alone."""
    own = trails(ways, setting)
    return [one for one in rests_of(ways, chosen) if one[1] == setting[1] and one not in own]


def keeping_of(ways, hands, setting):
    """What keeps tells of the source with these ways."""
    found = trails(with_hands(ways, hands), setting)
    others = moved_to(ways, setting, found)
    if others:
        return ("moved", found[others[0]])
    return ("keeps", ascending_of(ways, found))


def is_keeping_of(ways, hands, setting, told):
    """Whether this is right as what keeps tells of the source with these ways."""
    deeds = with_hands(ways, hands)
    if is_told(told, "keeps", 2):
        return is_kept(deeds, setting, told[1]) and not moved_to(ways, setting, {one: True for one in told[1]})
    if not is_told(told, "moved", 2):
        return False
    goal = end_of(deeds, setting, told[1])
    return len(moved_to(ways, setting, {goal: True})) > 0


def calm(bench, setting):
    """("calm", rows) with orders, or ("hunts", source, row, ring)."""
    need_setting(bench, setting)
    return on_bench(bench, "calm", lambda ways: ring_of(ways, setting))


def shows_calm(bench, setting, value):
    """Whether any value is such as calm tells."""
    need_setting(bench, setting)
    return shows_on_bench(bench, "calm", value, lambda ways, told: is_ring_of(ways, setting, told))


def comes(bench, setting, goal):
    """("comes", source, row) if goal is a rest that comes from setting on some
    source, otherwise ("never", rows) with settings that are not left."""
    need_setting(bench, setting)
    need_setting(bench, goal)
    return on_bench(bench, "never", lambda ways: coming_of(ways, setting, goal))


def shows_comes(bench, setting, goal, value):
    """Whether any value is such as comes tells."""
    need_setting(bench, setting)
    need_setting(bench, goal)
    return shows_on_bench(bench, "never", value, lambda ways, told: is_coming_of(ways, setting, goal, told))


def alone(bench, setting):
    """("one", rows) with the rests, or ("two", source, row, other)."""
    need_setting(bench, setting)
    return on_bench(bench, "one", lambda ways: goals_of(ways, setting))


def shows_alone(bench, setting, value):
    """Whether any value is such as alone tells."""
    need_setting(bench, setting)
    return shows_on_bench(bench, "one", value, lambda ways, told: are_goals_of(ways, setting, told))


def keeps(bench, setting):
    """("keeps", rows) with settings that are not left, or ("moved", source,
    deeds) if a load that is put on and off for a moment leads to another rest."""
    need_setting(bench, setting)
    hands = hands_of(bench)
    return on_bench(bench, "keeps", lambda ways: keeping_of(ways, hands, setting))


def shows_keeps(bench, setting, value):
    """Whether any value is such as keeps tells."""
    need_setting(bench, setting)
    hands = hands_of(bench)
    return shows_on_bench(bench, "keeps", value, lambda ways, told: is_keeping_of(ways, hands, setting, told))
