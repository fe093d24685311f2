"""What shows that a thing is small: the places that it needs, and bars, of each of which a place is needed."""

from shrinkhouse.errors import Healthy
from shrinkhouse.things import check_places


def places_beyond(asker, some):
    return [place for place in range(asker.thing().many()) if place not in some]


def check_failing(asker, places):
    if not asker.fails(places):
        raise Healthy("these places do not fail")


def needed(asker):
    check_failing(asker, places_beyond(asker, []))
    found = []
    for place in places_beyond(asker, []):
        if not asker.fails(places_beyond(asker, [place])):
            found.append(place)
    return found


def stays_at_first(place, places, found):
    stays = [other for other in places if other != place]
    for bar in found:
        stays.extend(bar)
    # A listed place stands in the list and in its own bar, too.
    return sorted(set(stays))


def bar_of(asker, place, at_first):
    stays = at_first
    for other in places_beyond(asker, at_first + [place]):
        more = sorted(stays + [other])
        if not asker.fails(more):
            stays = more
    return places_beyond(asker, stays)


def bars(asker, places):
    check_places(places, asker.thing().many())
    if not asker.grows():
        return None
    check_failing(asker, places)
    found = []
    for place in places:
        at_first = stays_at_first(place, places, found)
        if asker.fails(at_first):
            return None
        found.append(bar_of(asker, place, at_first))
    return found
