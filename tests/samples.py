"""Inputs that several tests share: things of every shape, small ones, and wrong ones."""

from itertools import combinations, permutations, product

from shrinkhouse.things import Forest, Row, Table

LONG = 10 ** 59 + 7  # sixty figures

NO_LISTS = [
    None, True, False, 0, 1, -1, LONG, -LONG, "", "a", "ab", "row a", "\n", "\t", (), ("a",), (0,),
    (("a", 0),), (["a"],), ([],), ((((),),),),
]

NO_WHOLES = [None, True, False, "", "0", "1", " 1", "a", [], [0], (), (0,), [[0]], [[[[0]]]]]

SIGNS = [chr(code) for code in range(ord(" "), ord("~") + 1) if chr(code) != "%"] + ["\n", "\t"]

LETTERS = "abcdefghijklmnopqrstuvwxyz"

RULES = ["halves", "trees", "ones", "marks"]

NO_MARKS = [
    None, True, False, 0, 1, LONG, -LONG, "", "abcdefghi", "a" * 2000, "A", "aB", "Ab", "a1", "1", "0",
    " ", " a", "a ", "a b", "\n", "\na", "a\n", "a\nb", "\t", "\ta", "a\t", "a\tb", "a_", "-", "a-b",
    "a,b", "(a)", "`", "{", "@", "[", "~", "abcdefgh\n", "abcdefgh ", [], ["a"], (), ("a",), [["a"]],
    [[[["a"]]]], (((("a",),),),), ["a", 1],
]


def names(many):
    """So many unlike marks."""
    return ["m" + LETTERS[at // 26] + LETTERS[at % 26] for at in range(many)]


def small_rows():
    for many in range(5):
        for marks in product("ab", repeat=many):
            yield Row(list(marks))


def depths_of(many):
    """Every way to lay out so many nodes."""
    if many == 0:
        return [[]]
    grown = []
    for depths in depths_of(many - 1):
        top = depths[-1] + 1 if depths else 0
        grown.extend([depths + [depth] for depth in range(top + 1)])
    return grown


def small_forests():
    for many in range(6):
        marks = ["a", "b", "a", "c", "b"][:many]
        for depths in depths_of(many):
            yield Forest(list(zip(marks, depths)))
            yield Forest(list(zip(reversed(marks), depths)))


def small_tables():
    for many, columns in product(range(4), range(3)):
        for marks in product("ab", repeat=many * columns):
            yield Table([list(marks[at * columns:(at + 1) * columns]) for at in range(many)])


def small_things():
    yield from small_rows()
    yield from small_forests()
    yield from small_tables()


def some_of(places):
    """Every list of some of the places, none and all among them."""
    for many in range(len(places) + 1):
        for some in combinations(places, many):
            yield list(some)


def things_of_three():
    """Things of every kind that have three places."""
    return [
        Row(["a", "b", "c"]), Forest([("a", 0), ("b", 1), ("c", 0)]), Table([["a", "b"]]), Table([["a"], ["b"]]),
        Table([["a", "b", "c"]]).left([1, 2, 3]), Table([["a"], ["b"], ["c"]]).left([0, 1, 2]),
    ]


def no_places_of_three():
    """What is no list of places of a thing that has three of them."""
    wrong = list(NO_LISTS)
    for part in NO_WHOLES + [-1, -3, -LONG, 3, 4, 40, 2 ** 64, LONG]:
        wrong += [[part], [part, 1], [0, part], [0, part, 2], [0, 1, 2, part]]
    wrong += [[0, 0], [2, 2], [0, 1, 1], [0, 0, 1, 2], [1, 0], [2, 1, 0], [0, 2, 1], [1, 2, 0], [2, 0, 1]]
    return wrong


def hung_under(nodes, place):
    """The places of the nodes under which the one at this place hangs, by the words of point 5."""
    depth = nodes[place][1]
    for ahead in range(place - 1, -1, -1):
        if nodes[ahead][1] == depth - 1:
            return hung_under(nodes, ahead) + [ahead]
    return []


def no_rules():
    """What is no rule."""
    wrong = [
        None, True, False, 0, 1, -1, LONG, [], (), ["halves"], ("halves",), ["halves", "ones"], list(RULES),
        tuple(RULES), [["ones"]], [[[["ones"]]]], "", " ", "\n", "\t", "a", "rule", "half", "tree", "one", "mark",
        "all", "halves ones", "halvesones", ",", "halves,ones",
    ]
    for rule in RULES:
        wrong += [rule.upper(), rule.capitalize(), rule * 2]
        for at in range(len(rule) + 1):
            for sign in ["a", "s", "z", "A", " ", "\n", "\t", "_", "0"]:
                wrong += [rule[:at] + sign + rule[at:], rule[:at] + sign + rule[at + 1:]]
            wrong += [rule[:at] + rule[at + 1:], rule[:at] + rule[at:at + 1].upper() + rule[at + 1:], rule[:at]]
    return [rule for rule in wrong if rule not in RULES]


def lists_of_rules():
    """Every list of one to four unlike rules."""
    return [list(some) for many in range(1, 5) for some in permutations(RULES, many)]


def spoil(told):
    """Changes a list, and each list in it, also within tuples, in every way."""
    for part in told:
        if isinstance(part, (list, tuple)):
            spoil(part)
    if isinstance(told, list):
        told.reverse()
        told.append("spoilt")
        told.insert(0, 77)
        del told[1:]
