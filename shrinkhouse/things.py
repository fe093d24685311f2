"""Rows, forests and tables: their places, their spots, and what some places leave."""

from shrinkhouse.errors import NoPlace, NoThing
from shrinkhouse.marks import is_mark, is_whole

MOST_IN_ROW = 40
MOST_NODES = 40
DEEPEST = 12
MOST_LINES = 12
MOST_COLUMNS = 12


def check_list(thing, most):
    if not isinstance(thing, list):
        raise NoThing("not made of a list")
    if len(thing) > most:
        raise NoThing("too many in a list")


def check_marks(marks, most):
    check_list(marks, most)
    for mark in marks:
        if not is_mark(mark):
            raise NoThing("something that is no mark")


def check_node(node, deepest):
    if not isinstance(node, tuple) or len(node) != 2:
        raise NoThing("a node that is no tuple of two")
    if not is_mark(node[0]):
        raise NoThing("a node without a mark")
    if not is_whole(node[1]) or not 0 <= node[1] <= deepest:
        raise NoThing("a node whose depth does not fit")


def check_nodes(nodes):
    check_list(nodes, MOST_NODES)
    deepest = 0
    for node in nodes:
        check_node(node, deepest)
        deepest = min(node[1] + 1, DEEPEST)


def check_lines(lines):
    check_list(lines, MOST_LINES)
    for line in lines:
        check_marks(line, MOST_COLUMNS)
        # The first line was checked in the first turn, so it has a length.
        if len(line) != len(lines[0]):
            raise NoThing("lines of unlike length")


def check_places(places, many):
    if not isinstance(places, list):
        raise NoPlace("places that are no list")
    lowest = 0
    for place in places:
        if not is_whole(place) or not lowest <= place < many:
            raise NoPlace("not a place, or not a rising one")
        lowest = place + 1


def marks_at(marks, places):
    return [marks[place] for place in places]


def places_of(marks, mark):
    return [place for place, found in enumerate(marks) if found == mark]


def stands_ahead(marks, one, other):
    seen = False
    for mark in marks:
        if seen and mark == other:
            return True
        if mark == one:
            seen = True
    return False


def stands_right_ahead(marks, one, other):
    return any([first == one and second == other for first, second in zip(marks, marks[1:])])


class Thing:
    """What rows, forests and tables share: spots that are read in one order."""

    def __init__(self, spot_marks):
        self.spot_marks = tuple(spot_marks)

    def spots(self):
        return list(self.spot_marks)

    def many_of(self, mark):
        return self.spot_marks.count(mark)

    def is_before(self, one, other):
        return stands_ahead(self.spot_marks, one, other)


class Row(Thing):
    """Marks one behind the other; each is a place and a spot."""

    def __init__(self, marks):
        check_marks(marks, MOST_IN_ROW)
        Thing.__init__(self, marks)

    def many(self):
        return len(self.spot_marks)

    def left(self, places):
        check_places(places, self.many())
        return Row(marks_at(self.spot_marks, places))

    def form(self):
        return ("row", self.spot_marks)

    def standing(self, mark):
        return places_of(self.spot_marks, mark)

    def is_under(self, one, other):
        return False

    def is_beside(self, one, other):
        return stands_right_ahead(self.spot_marks, one, other)

    def hanging(self, place):
        return [place]


class Forest(Thing):
    """Nodes (mark, depth) that hang under one another; each is a place and a spot."""

    def __init__(self, nodes):
        check_nodes(nodes)
        Thing.__init__(self, [node[0] for node in nodes])
        self.nodes = tuple(nodes)

    def many(self):
        return len(self.nodes)

    def left(self, places):
        check_places(places, self.many())
        kept = dict([(place, True) for place in places])
        rest = []
        # above[d] is how many of the nodes over one of depth d, on its way up, are kept.
        above = [0]
        for place, node in enumerate(self.nodes):
            above = above[:node[1] + 1]
            depth = above[-1]
            if place in kept:
                rest.append((node[0], depth))
                above.append(depth + 1)
            else:
                above.append(depth)
        return Forest(rest)

    def form(self):
        return ("forest", self.nodes)

    def standing(self, mark):
        return places_of(self.spot_marks, mark)

    def is_under(self, one, other):
        for place in self.standing(one):
            if other in marks_at(self.spot_marks, self.hanging(place)[1:]):
                return True
        return False

    def is_beside(self, one, other):
        for place in self.standing(one):
            # The first node that does not hang under this one is the next one
            # beside it, unless it hangs less deep.
            behind = self.hanging(place)[-1] + 1
            if behind < self.many() and self.nodes[behind] == (other, self.nodes[place][1]):
                return True
        return False

    def hanging(self, place):
        end = place + 1
        while end < self.many() and self.nodes[end][1] > self.nodes[place][1]:
            end += 1
        return list(range(place, end))


class Table(Thing):
    """Lines of marks; the places are the lines and then the columns, the spots the marks."""

    def __init__(self, lines):
        check_lines(lines)
        spot_marks = []
        for line in lines:
            spot_marks.extend(line)
        Thing.__init__(self, spot_marks)
        self.lines = tuple([tuple(line) for line in lines])
        self.columns = len(lines[0]) if lines else 0

    def many(self):
        return len(self.lines) + self.columns

    def left(self, places):
        check_places(places, self.many())
        first_column = len(self.lines)
        lines = [self.lines[place] for place in places if place < first_column]
        columns = [place - first_column for place in places if place >= first_column]
        rest = Table([marks_at(line, columns) for line in lines])
        # Where all lines are taken out, no line tells any more how many columns stay.
        rest.columns = len(columns)
        return rest

    def form(self):
        return ("table", self.columns, self.lines)

    def standing(self, mark):
        return [place for place, line in enumerate(self.lines) if mark in line]

    def is_under(self, one, other):
        for column in range(self.columns):
            if stands_ahead([line[column] for line in self.lines], one, other):
                return True
        return False

    def is_beside(self, one, other):
        return any([stands_right_ahead(line, one, other) for line in self.lines])

    def hanging(self, place):
        return [place]
