"""The texts of things: written, and read to things."""

from shrinkhouse.errors import NoText, NoThing
from shrinkhouse.things import Forest, Row, Table


def show_line(line):
    return " ".join(line) if line else "-"


def signs_between(last, depth):
    if depth > last:
        return "("
    return ")" * (last - depth) + ","


def show_nodes(nodes):
    shown = ""
    last = 0
    for mark, depth in nodes:
        if shown:
            shown += signs_between(last, depth)
        shown += mark
        last = depth
    return shown + ")" * last


def show_thing(thing):
    form = thing.form()
    kind = form[0]
    if kind == "row":
        inside = " ".join(form[1])
    elif kind == "forest":
        inside = show_nodes(form[1])
    else:
        inside = " / ".join([show_line(line) for line in form[2]])
    return kind + " " + inside if inside else kind


def nodes_in(text):
    nodes = []
    depth = 0
    for word in text.replace("(", " ( ").replace(")", " ) ").replace(",", " ").split(" "):
        if word == "(":
            depth += 1
        elif word == ")":
            depth -= 1
        elif word != "":
            nodes.append((word, depth))
    return nodes


def lines_in(text):
    if text == "":
        return []
    lines = [[]]
    for word in text.split(" "):
        if word == "/":
            lines.append([])
        elif word != "-":
            lines[-1].append(word)
    return lines


def marks_in(text):
    return text.split(" ") if text else []


def made_of(kind, inside):
    if kind == "row":
        return Row(marks_in(inside))
    if kind == "forest":
        return Forest(nodes_in(inside))
    if kind == "table":
        return Table(lines_in(inside))
    raise NoText("a word that names no thing")


def read_thing(text):
    if not isinstance(text, str):
        raise NoText("no text")
    parts = text.partition(" ")
    try:
        thing = made_of(parts[0], parts[2])
    except NoThing:
        raise NoText("what would be read makes no thing") from None
    # It was read without a look at how the signs between the marks stand: written anew, they must be the same.
    if show_thing(thing) != text:
        raise NoText("blanks, bars, brackets or commas stand where they don't belong")
    return thing
