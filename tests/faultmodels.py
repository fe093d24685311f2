"""Faults told by plain tuples, and what the points say of them, written apart from the program.

("has", mark), ("many", number, mark), ("before", one, other), ("under", one, other), ("beside", one, other),
("all", model, ..), ("any", model, ..), ("not", model).
"""

from shrinkhouse.faults import All, Any, Before, Beside, Has, Many, Not, Under

PAIRS = {"before": Before, "under": Under, "beside": Beside}

LEAVES = [
    ("has", "a"), ("has", "b"), ("has", "x"), ("has", "abcdefgh"),
    ("many", 1, "a"), ("many", 2, "a"), ("many", 3, "b"), ("many", 999999999, "b"),
    ("before", "a", "b"), ("before", "b", "a"), ("before", "a", "a"),
    ("under", "a", "b"), ("under", "b", "a"), ("under", "b", "b"),
    ("beside", "a", "b"), ("beside", "b", "a"), ("beside", "a", "a"),
    # Marks that are words of faults.
    ("has", "has"), ("has", "not"), ("many", 1, "many"), ("before", "all", "any"), ("under", "under", "before"),
    ("beside", "not", "beside"),
]


def nested(deep, words=("not",)):
    """A fault that is so deep, by these words in turn."""
    model = ("has", "a")
    for at in range(deep - 1):
        word = words[at % len(words)]
        model = (word, model) if word == "not" else (word, model, ("many", at + 1, "b"))
    return model


JOINTS = [
    ("all", ("has", "a"), ("has", "b")),
    ("all", ("has", "b"), ("has", "a")),
    ("any", ("has", "b"), ("has", "a"), ("has", "b")),
    ("all", ("has", "a"), ("has", "a"), ("has", "a"), ("has", "a"), ("has", "a"), ("has", "b")),
    ("all", ("has", "b"), ("has", "a"), ("has", "a"), ("has", "a"), ("has", "a"), ("has", "a")),
    ("any", ("has", "x"), ("has", "x"), ("has", "x"), ("has", "x"), ("has", "x"), ("has", "b")),
    ("any", ("has", "b"), ("has", "x"), ("has", "x"), ("has", "x"), ("has", "x"), ("has", "x")),
    ("not", ("has", "a")),
    ("not", ("not", ("has", "a"))),
    ("not", ("all", ("has", "a"), ("has", "b"))),
    ("all", ("many", 2, "a"), ("not", ("before", "a", "b"))),
    ("any", ("under", "a", "b"), ("all", ("has", "b"), ("beside", "b", "a"))),
    ("all", ("any", ("has", "a"), ("has", "c")), ("any", ("many", 2, "b"), ("under", "b", "a"))),
    ("any", ("has", "any"), ("has", "all"), ("not", ("has", "not"))),
]

DEEP = [nested(deep, words) for deep in range(1, 9) for words in [("not",), ("all", "any"), ("any", "not", "all")]]


def of_faults(faults):
    """A fault with so many faults in it, itself too, from 43 to 79; not more than four deep."""
    nots = faults - 43
    leaves = [("not", ("has", "a")) if at < nots else ("has", "a") for at in range(36)]
    return ("all",) + tuple(("any",) + tuple(leaves[at:at + 6]) for at in range(0, 36, 6))


def parts_of(model):
    return list(model[1:]) if model[0] in ("all", "any", "not") else []


def made(model):
    word = model[0]
    if word == "has":
        return Has(model[1])
    if word == "many":
        return Many(model[1], model[2])
    if word in PAIRS:
        return PAIRS[word](model[1], model[2])
    if word == "not":
        return Not(made(model[1]))
    parts = [made(part) for part in model[1:]]
    return All(parts) if word == "all" else Any(parts)


def text_of(model):
    inside = [text_of(part) for part in parts_of(model)] or [str(part) for part in model[1:]]
    return "%s(%s)" % (model[0], ",".join(inside))


def count_of(model):
    return 1 + sum(count_of(part) for part in parts_of(model))


def depth_of(model):
    return 1 + max([depth_of(part) for part in parts_of(model)], default=0)


def marks_of(model):
    if parts_of(model):
        return sorted({mark for part in parts_of(model) for mark in marks_of(part)})
    return sorted({mark for mark in model[1:] if isinstance(mark, str)})


def words_of(model):
    return {model[0]}.union(*[words_of(part) for part in parts_of(model)])


def grows_of(model):
    return not words_of(model) & {"not", "beside"}


def holds_of(model, thing):
    word = model[0]
    if word == "has":
        return model[1] in thing.spots()
    if word == "many":
        return len([mark for mark in thing.spots() if mark == model[2]]) >= model[1]
    if word == "before":
        return thing.is_before(model[1], model[2])
    if word == "under":
        return thing.is_under(model[1], model[2])
    if word == "beside":
        return thing.is_beside(model[1], model[2])
    held = [holds_of(part, thing) for part in parts_of(model)]
    if word == "not":
        return not held[0]
    return False not in held if word == "all" else True in held
