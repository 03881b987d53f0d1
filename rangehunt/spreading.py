"""The least spread with which nothing hunts."""

from rangehunt.always import calm, shows_calm
from rangehunt.basics import is_integer
from rangehunt.benches import MOST_SPREAD
from rangehunt.classes import classes
from rangehunt.resting import is_told
from rangehunt.stepping import need_setting


def need_few_classes(bench):
    """Refuse a bench that has too many classes with any spread."""
    for many in range(MOST_SPREAD + 1):
        classes(bench.spread_by(many))


def shows_hunt(bench, setting, many, value):
    """Whether this tells that with a spread less by one the meters can hunt; of
    no spread there is none that is less, and nothing to be told."""
    if many == 0:
        return value == ()
    return is_told(value, "hunts", 4) and shows_calm(bench.spread_by(many - 1), setting, value)


def least_spread(bench, setting):
    """("least", n, rows, hunt): the least spread that is calm, with the rows of
    calm, and what is told of the spread less by one, if there is one."""
    need_setting(bench, setting)
    need_few_classes(bench)
    hunt = ()
    many = 0
    told = calm(bench.spread_by(many), setting)
    # It ends: with the most spread nothing ever goes down.
    while told[0] == "hunts":
        hunt = told
        many += 1
        told = calm(bench.spread_by(many), setting)
    return ("least", many, told[1], hunt)


def shows_spread(bench, setting, value):
    """Whether any value is such as least_spread tells."""
    need_setting(bench, setting)
    need_few_classes(bench)
    if not is_told(value, "least", 4):
        return False
    many = value[1]
    if not is_integer(many) or many < 0 or many > MOST_SPREAD:
        return False
    if not shows_calm(bench.spread_by(many), setting, ("calm", value[2])):
        return False
    # What is calm is calm with a greater spread: a hunt of the one ahead is enough.
    return shows_hunt(bench, setting, many, value[3])
