"""Faults: what may hold of the marks of a thing, so that the thing fails."""


def written(word, inside):
    return word + "(" + ",".join(inside) + ")"


def each_once(marks):
    return sorted(set(marks))


class Fault:
    """Any fault. It never changes, so one fault may be a part of several others."""


class Has(Fault):
    """The mark stands there."""

    def __init__(self, mark):
        self.mark = mark

    def holds(self, thing):
        return thing.many_of(self.mark) > 0

    def marks(self):
        return [self.mark]

    def shown(self):
        return written("has", [self.mark])

    def grows(self):
        return True


class Many(Fault):
    """At least so many spots have the mark."""

    def __init__(self, number, mark):
        self.number = number
        self.mark = mark

    def holds(self, thing):
        return thing.many_of(self.mark) >= self.number

    def marks(self):
        return [self.mark]

    def shown(self):
        return written("many", [str(self.number), self.mark])

    def grows(self):
        return True


class Pair(Fault):
    """What faults of two marks share."""

    def __init__(self, one, other):
        self.one = one
        self.other = other

    def marks(self):
        return each_once([self.one, self.other])


class Before(Pair):
    """A spot with the one mark is read ahead of a spot with the other one."""

    def holds(self, thing):
        return thing.is_before(self.one, self.other)

    def shown(self):
        return written("before", [self.one, self.other])

    def grows(self):
        return True


class Under(Pair):
    """A spot with the other mark lies under a spot with the one."""

    def holds(self, thing):
        return thing.is_under(self.one, self.other)

    def shown(self):
        return written("under", [self.one, self.other])

    def grows(self):
        return True


class Beside(Pair):
    """The other mark stands beside the one."""

    def holds(self, thing):
        return thing.is_beside(self.one, self.other)

    def shown(self):
        return written("beside", [self.one, self.other])

    def grows(self):
        # One place more may come between two that stand beside one another.
        return False


class Joint(Fault):
    """What faults of several parts share."""

    def __init__(self, parts):
        # A copy, since the list that was handed in may change later.
        self.parts = tuple(parts)

    def marks(self):
        found = []
        for part in self.parts:
            found.extend(part.marks())
        return each_once(found)

    def grows(self):
        return all([part.grows() for part in self.parts])


class All(Joint):
    """All of the parts hold."""

    def holds(self, thing):
        for part in self.parts:
            if not part.holds(thing):
                return False
        return True

    def shown(self):
        return written("all", [part.shown() for part in self.parts])


class Any(Joint):
    """One of the parts holds, or more."""

    def holds(self, thing):
        for part in self.parts:
            if part.holds(thing):
                return True
        return False

    def shown(self):
        return written("any", [part.shown() for part in self.parts])


class Not(Fault):
    """The part does not hold."""

    def __init__(self, part):
        self.part = part

    def holds(self, thing):
        return not self.part.holds(thing)

    def marks(self):
        return self.part.marks()

    def shown(self):
        return written("not", [self.part.shown()])

    def grows(self):
        return False
