"""Two benches: whether they come to the same rests, whatever the source."""

from rangehunt.always import is_rest, on_all, shows_on_all
from rangehunt.benches import Bench
from rangehunt.classes import lines_of
from rangehunt.errors import Unlike
from rangehunt.resting import end_of, is_told, rests_of, trails, ways_on
from rangehunt.stepping import moves_of, need_setting


def names_of(bench):
    """All names of the bench, in sequence: (meters with their ranges, loads)."""
    meters = [(meter, tuple([row[0] for row in bench[meter]])) for meter in bench.meters]
    return (tuple(meters), bench.loads)


def need_alike(one, other):
    """Refuse any value that is no Bench with the same names as one."""
    if not isinstance(other, Bench) or names_of(other) != names_of(one):
        raise Unlike(other)


def lines_of_both(moves, others):
    """The lines of both benches, ascending by their numbers."""
    return lines_of({setting: moves[setting] + others[setting] for setting in moves})


def goals_beside(ways, others, setting):
    """What alike tells of the source with these ways, and those of the other bench."""
    found = trails(ways, setting)
    further = trails(others, setting)
    goals = rests_of(ways, found)
    other_goals = rests_of(others, further)
    for goal in goals:
        if goal not in other_goals:
            return ("parts", found[goal], True)
    for goal in other_goals:
        if goal not in goals:
            return ("parts", further[goal], False)
    return ("alike", goals)


def is_parting(ways, others, setting, row):
    """Whether the row leads to a rest that does not come from setting in the other bench."""
    goal = end_of(ways, setting, row)
    return is_rest(ways, goal) and goal not in rests_of(others, trails(others, setting))


def is_beside(ways, others, setting, told):
    """Whether this is right as what alike tells of the source with these ways."""
    if is_told(told, "alike", 2):
        return goals_beside(ways, others, setting) == told
    if not is_told(told, "parts", 3):
        return False
    if told[2] is True:
        return is_parting(ways, others, setting, told[1])
    return told[2] is False and is_parting(others, ways, setting, told[1])


def alike(one, other, setting):
    """("alike", rows) with the rests, if they are the same in both benches on
    each source; otherwise ("parts", source, row, is_one)."""
    need_alike(one, other)
    need_setting(one, setting)
    moves = moves_of(one)
    others = moves_of(other)
    return on_all(
        lines_of_both(moves, others), "alike",
        lambda source: goals_beside(ways_on(moves, source), ways_on(others, source), setting),
    )


def shows_alike(one, other, setting, value):
    """Whether any value is such as alike tells."""
    need_alike(one, other)
    need_setting(one, setting)
    moves = moves_of(one)
    others = moves_of(other)
    return shows_on_all(
        lines_of_both(moves, others), "alike", value,
        lambda source, told: is_beside(ways_on(moves, source), ways_on(others, source), setting, told),
    )
