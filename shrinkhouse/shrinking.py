"""Shrinking: groups are taken out by rules, one after another, as long as what is left fails."""

from shrinkhouse.errors import Healthy, Spent
from shrinkhouse.rules import check_rules, groups


def without(places, group):
    return [place for place in places if place not in group]


def group_to_take(asker, rule, kept):
    for group in groups(rule, asker.thing(), kept):
        if asker.fails(without(kept, group)):
            return group
    return None


def shrunk(asker, rules):
    check_rules(rules)
    kept = list(range(asker.thing().many()))
    # Spent is not taken here: where this may not be asked any more, nothing is known to fail.
    if not asker.fails(kept):
        raise Healthy("all places together do not fail")
    steps = []
    turn = 0
    in_vain = 0
    while in_vain < len(rules):
        rule = rules[turn]
        try:
            group = group_to_take(asker, rule, kept)
        except Spent:
            return ("spent", kept, steps)
        if group is None:
            in_vain += 1
            turn = (turn + 1) % len(rules)
        else:
            in_vain = 0
            kept = without(kept, group)
            steps.append((rule, group))
    return ("small", kept, steps)


def bound(thing, rules):
    places = thing.many()
    # In one turn halves has fewer than three groups for each place, trees and ones have one,
    # marks has at most one for each spot; and no more groups are taken out than there are places.
    return 1 + (places + 1) * len(rules) * (3 * places + len(thing.spots()))
