"""The texts of things, by the words of the points 25 and 26, written apart from the program."""

import re

MARK = "[a-z]{1,8}"
LINE = f"{MARK}(?: {MARK}){{0,11}}"
# What was taken together already stands as 0, a sign that no text of a forest has.
NODE = f"(?:{MARK}|0)"
BRACKET = rf"(?<![a-z]){MARK}\({NODE}(?:,{NODE})*\)"


def nodes_text(nodes):
    """The text of nodes of which the first hangs highest."""
    parts = []
    while nodes:
        end = 1
        while end < len(nodes) and nodes[end][1] > nodes[0][1]:
            end += 1
        under = nodes[1:end]
        parts.append(nodes[0][0] + ("(" + nodes_text(under) + ")" if under else ""))
        nodes = nodes[end:]
    return ",".join(parts)


def text_of_form(form):
    """Point 25."""
    if form[0] == "row":
        return "".join(["row"] + [" " + mark for mark in form[1]])
    if form[0] == "forest":
        return "forest " + nodes_text(form[1]) if form[1] else "forest"
    text = "table"
    for at, line in enumerate(form[2]):
        text += (" / " if at else " ") + (" ".join(line) if line else "-")
    return text


def nodes_of_text(text):
    """The nodes of such a text, or None."""
    if re.search(r"[^a-z(),]", text):
        return None
    rest = text
    before = None
    while rest != before:
        before = rest
        rest = re.sub(BRACKET, "0", rest)
    if not re.fullmatch(f"{NODE}(?:,{NODE})*", rest):
        return None
    nodes = []
    for match in re.finditer("[a-z]+", text):
        ahead = text[:match.start()]
        nodes.append((match.group(), ahead.count("(") - ahead.count(")")))
    if len(nodes) > 40 or max(depth for mark, depth in nodes) > 12:
        return None
    return tuple(nodes)


def form_of_text(text):
    """Point 26: the form of the thing that is read, or None where it is refused."""
    if re.fullmatch(f"row(?: {MARK}){{0,40}}", text):
        return ("row", tuple(text.split(" ")[1:]))
    if text == "forest":
        return ("forest", ())
    if text.startswith("forest "):
        nodes = nodes_of_text(text[len("forest "):])
        return None if nodes is None else ("forest", nodes)
    if text == "table":
        return ("table", 0, ())
    if re.fullmatch("table -(?: / -){0,11}", text):
        return ("table", 0, ((),) * text.count("-"))
    if re.fullmatch(f"table {LINE}(?: / {LINE}){{0,11}}", text):
        lines = tuple(tuple(line.split(" ")) for line in text[len("table "):].split(" / "))
        if len({len(line) for line in lines}) == 1:
            return ("table", len(lines[0]), lines)
    return None
