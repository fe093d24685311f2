"""The rules: which groups of places may be taken out, one after another."""

from shrinkhouse.errors import NoRule
from shrinkhouse.things import check_places

RULES = ("halves", "trees", "ones", "marks")


def check_rule(rule):
    if rule not in RULES:
        raise NoRule("no rule")


def check_rules(rules):
    if not isinstance(rules, list) or not rules:
        raise NoRule("no list of rules, or an empty one")
    for rule in rules:
        check_rule(rule)
    if len(set(rules)) < len(rules):
        raise NoRule("a rule stands twice")


def sizes_down(many):
    if many == 0:
        return []
    sizes = [many]
    while sizes[-1] > 1:
        sizes.append((sizes[-1] + 1) // 2)
    return sizes


def stretches(places, size):
    return [places[start:start + size] for start in range(0, len(places), size)]


def by_halves(places):
    found = []
    for size in sizes_down(len(places)):
        found.extend(stretches(places, size))
    return found


def kept_of(hung, places):
    return [place for place in hung if place in places]


def by_trees(thing, places):
    return [kept_of(thing.hanging(place), places) for place in places]


def by_ones(places):
    return [[place] for place in places]


def as_first_read(marks):
    # A dict keeps the order in which its keys came.
    return list(dict([(mark, True) for mark in marks]))


def numbered_back(left_places, places):
    # What is left numbers its places anew, in the same order; in a table too, since
    # the lines come ahead of the columns there and here.
    return [places[place] for place in left_places]


def by_marks(thing, places):
    rest = thing.left(places)
    return [numbered_back(rest.standing(mark), places) for mark in as_first_read(rest.spots())]


def groups(rule, thing, places):
    check_rule(rule)
    check_places(places, thing.many())
    if rule == "halves":
        return by_halves(places)
    if rule == "trees":
        return by_trees(thing, places)
    if rule == "ones":
        return by_ones(places)
    return by_marks(thing, places)
