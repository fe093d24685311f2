import unittest
from copy import deepcopy

from samples import spoil
from shrinkhouse.errors import NoPlace, NoThing
from shrinkhouse.marks import is_mark, is_whole
from shrinkhouse.things import Forest, Row, Table


def made_things():
    """Tuples (made, what it is made of)."""
    return [
        (Row, ["a", "b", "a", "c"]),
        (Forest, [("a", 0), ("b", 1), ("a", 2), ("c", 1), ("b", 0)]),
        (Table, [["a", "b", "a"], ["c", "a", "b"]]),
    ]


def all_told(thing):
    """All that is told of a thing and of what is left of it, as one value."""
    told = [thing.many(), thing.spots(), thing.form(), [thing.hanging(place) for place in range(thing.many())]]
    for one in "abcx":
        told.append([thing.many_of(one), thing.standing(one)])
        for other in "abcx":
            told.append([thing.is_before(one, other), thing.is_under(one, other), thing.is_beside(one, other)])
    told.append([thing.left(places).form() for places in ([], [0], [1, 2], list(range(thing.many())))])
    return told


class KeepingTest(unittest.TestCase):
    """Point 2."""

    def test_what_makes_a_thing_is_as_it_was(self):
        for made, handed_in in made_things():
            before = deepcopy(handed_in)
            all_told(made(handed_in))
            self.assertEqual(handed_in, before)

    def test_what_is_refused_is_as_it_was(self):
        for made, handed_in in [
            (Row, ["b", "a", ["B"]]), (Forest, [("b", 0), ["a", 0], ("c", 3)]), (Table, [["b", "a"], ["a"], [[]]]),
        ]:
            before = deepcopy(handed_in)
            with self.assertRaises(NoThing):
                made(handed_in)
            self.assertEqual(handed_in, before)

    def test_truths_about_any_thing_change_nothing(self):
        for thing in [["b", ["a"]], [2, 1, [True, None]]]:
            before = deepcopy(thing)
            is_whole(thing)
            is_mark(thing)
            self.assertEqual(thing, before)

    def test_places_are_as_they_were(self):
        for made, handed_in in made_things():
            thing = made(handed_in)
            for places in [[], [0], [0, 2], [0, 1, 2, 3]]:
                before = list(places)
                thing.left(places)
                self.assertEqual(places, before)
            for places in [[2, 1], [0, 0], [0, "a", [1]], [0, 99]]:
                before = deepcopy(places)
                with self.assertRaises(NoPlace):
                    thing.left(places)
                self.assertEqual(places, before)

    def test_changing_what_was_handed_in_changes_no_thing(self):
        for made, handed_in in made_things():
            thing = made(handed_in)
            before = deepcopy(all_told(thing))
            spoil(handed_in)
            self.assertEqual(all_told(thing), before)

    def test_changing_the_places_changes_nothing_that_was_left(self):
        for made, handed_in in made_things():
            thing = made(handed_in)
            whole = deepcopy(all_told(thing))
            places = [0, 1, 3]
            rest = thing.left(places)
            before = deepcopy(all_told(rest))
            spoil(places)
            self.assertEqual(all_told(rest), before)
            self.assertEqual(all_told(thing), whole)

    def test_changing_a_list_that_was_told_changes_nothing(self):
        for made, handed_in in made_things():
            thing = made(handed_in)
            before = deepcopy(all_told(thing))
            kept = thing.spots()
            for told in [thing.spots, lambda: thing.standing("a"), lambda: thing.standing("x"),
                         lambda: thing.hanging(0), lambda: thing.hanging(thing.many() - 1)]:
                spoil(told())
                self.assertEqual(all_told(thing), before)
            self.assertEqual(kept, thing.spots())
            self.assertIsNot(kept, thing.spots())

    def test_leaving_changes_no_thing(self):
        for made, handed_in in made_things():
            thing = made(handed_in)
            before = deepcopy(all_told(thing))
            for place in range(thing.many()):
                rest = thing.left([other for other in range(thing.many()) if other != place])
                spoil(rest.spots())
                rest.left([])
            self.assertEqual(all_told(thing), before)

    def test_two_things_of_one_list_are_apart(self):
        for made, handed_in in made_things():
            first = made(handed_in)
            before = deepcopy(all_told(first))
            handed_in.pop()
            second = made(handed_in)
            self.assertNotEqual(second.form(), first.form())
            self.assertEqual(all_told(first), before)


if __name__ == "__main__":
    unittest.main()
