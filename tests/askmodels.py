"""What the points 13 to 23 tell to be asked and told, by their words, written apart from the program."""

from faultmodels import grows_of, holds_of
from samples import hung_under
from shrinkhouse.things import Forest, Table


class Refused(Exception):
    """Its one argument is the name of the refusal."""


def places_of(thing):
    return list(range(thing.many()))


def hung_and_kept(thing, place, places):
    if not isinstance(thing, Forest):
        return [place]
    nodes = thing.form()[1]
    return [other for other in places if other == place or place in hung_under(nodes, other)]


def spots_kept(thing, places):
    """Tuples (mark, place) of what is left, as they are read; of a table the place of the line."""
    if not isinstance(thing, Table):
        return [(thing.spots()[place], place) for place in places]
    lines = thing.form()[2]
    columns = [place - len(lines) for place in places if place >= len(lines)]
    return [(lines[line][column], line) for line in places if line < len(lines) for column in columns]


def halves_of(places):
    found = []
    size = len(places)
    while places:
        rest = list(places)
        while rest:
            found.append(rest[:size])
            rest = rest[size:]
        if size == 1:
            break
        size = size // 2 + size % 2
    return found


def groups_of(rule, thing, places):
    """Point 13."""
    if rule == "halves":
        return halves_of(places)
    if rule == "trees":
        return [hung_and_kept(thing, place, places) for place in places]
    if rule == "ones":
        return [[place] for place in places]
    found = {}
    for mark, place in spots_kept(thing, places):
        if place not in found.setdefault(mark, []):
            found[mark].append(place)
    return list(found.values())


class Book:
    """What an asker is asked, by the points 14 to 16. The fault is told by its model."""

    def __init__(self, thing, model, most):
        self.thing = thing
        self.model = model
        self.most = most
        self.known = {}
        self.log = []

    def fails(self, places):
        rest = self.thing.left(places)
        if rest.form() in self.known:
            return self.known[rest.form()]
        if len(self.log) + 1 > self.most:
            raise Refused("Spent")
        self.known[rest.form()] = holds_of(self.model, rest)
        self.log.append((list(places), self.known[rest.form()]))
        return self.known[rest.form()]


def shrunk_of(book, rules):
    """Points 17 to 19."""
    kept = places_of(book.thing)
    if not book.fails(kept):
        raise Refused("Healthy")
    steps = []
    # The rules that had a turn since something was taken out, none of them with success.
    in_vain = []
    waiting = list(rules)
    while len(in_vain) < len(rules):
        rule = waiting[0]
        for group in groups_of(rule, book.thing, kept):
            rest = sorted(set(kept) - set(group))
            try:
                fails = book.fails(rest)
            except Refused:
                return ("spent", kept, steps)
            if fails:
                kept = rest
                steps.append((rule, group))
                in_vain = []
                break
        else:
            in_vain.append(rule)
            waiting = waiting[1:] + waiting[:1]
    return ("small", kept, steps)


def bound_of(thing, rules):
    """Point 20."""
    n = thing.many()
    s = len(thing.spots())
    r = len(rules)
    return 1 + (n + 1) * r * (3 * n + s)


def needed_of(book):
    """Point 22."""
    every = places_of(book.thing)
    if not book.fails(every):
        raise Refused("Healthy")
    return [place for place in every if not book.fails([other for other in every if other != place])]


def bars_of(book, places):
    """Point 23, of places that are places."""
    if not grows_of(book.model):
        return None
    if not book.fails(places):
        raise Refused("Healthy")
    bars = []
    for p in places:
        stays = (set(places) - {p}).union(*bars)
        if book.fails(sorted(stays)):
            return None
        for place in places_of(book.thing):
            if place != p and place not in stays and not book.fails(sorted(stays | {place})):
                stays.add(place)
        bars.append([place for place in places_of(book.thing) if place not in stays])
    return bars
