"""A plain reading of [6] and [7]: which line of a text of a script is the first wrong one. No code of the package."""

import re

BARRED = """row mark unmark lot lots takes gives next prev first last where nothing if else end times put swap turn sort
gather by ahead behind is has with missing it and or not all some""".split()
NAME = f"(?!(?:{'|'.join(BARRED)})(?![a-z]))[a-z]{{1,12}}(?![a-z])"


def one_of(words):
    """A pattern for one of the words; one that nothing fits if there are none."""
    return f"(?:{'|'.join(words)})(?![a-z])" if words else "(?!)"


def condition_is_right(scene, text, has_it):
    if text != " ".join(text.split()) or not text:
        return False
    asked = f"(?:{NAME}|it(?![a-z]))" if has_it else NAME
    parts = [f"{asked} ahead {asked} {one_of(scene.rows)}", f"{asked} is {asked}", f"{asked} missing"]
    if scene.marks:
        parts.append(f"{asked} has {one_of(scene.marks)}")
    if scene.has_lots:
        parts.append(f"{asked} with {asked}")
    told = re.sub(f"(?<![^ ])(?:{'|'.join(parts)})(?![^ ])", "P", text)
    words = told.split(" ")
    if words.count("P") > 8 or most_open(words) > 10:
        return False
    before = None
    while before != told:
        before = told
        told = re.sub(r"\( P \)|not P(?![^ ])|P (?:and|or) P(?![^ ])", "P", told)
    return told == "P"


def most_open(words):
    """The greatest number of brackets and nots that are open at the same time."""
    stack = []
    most = 0
    for word in words:
        if word in ("not", "("):
            stack.append(word)
        if word == ")" and "(" in stack:
            while stack.pop() != "(":
                pass
        if word in ("P", ")"):
            while stack[-1:] == ["not"]:
                stack.pop()
        most = max(most, len(stack))
    return most


def line_kind(scene, line):
    """`takes`, `gives`, `if`, `else`, `times`, `end`, `other`; None if the line has none of the forms."""
    row, mark = one_of(scene.rows), one_of(scene.marks)
    takes = re.fullmatch(f"takes((?: {NAME}){{0,2}})", line)
    if takes:
        names = takes.group(1).split()
        return "takes" if len(names) == len(set(names)) else None
    if re.fullmatch(f"gives(?: {NAME}){{0,2}}", line):
        return "gives"
    if re.fullmatch("else|end|times [12345]", line):
        return line.split(" ")[0]
    forms = [f"{NAME} = (?:next|prev) {NAME} {row}", f"{NAME} = (?:first|last) {row}", f"{NAME} = {NAME}",
             f"{NAME} = nothing", f"put {NAME} (?:behind|ahead) {NAME} {row}", f"swap {NAME} {NAME} {row}",
             f"turn {row}", f"sort {row} by {row}", f"(?:un)?mark {NAME} {mark}"]
    if any(re.fullmatch(form, line) for form in forms):
        return "other"
    head = re.match(f"(?:if|{forms[0]} where|{forms[1]} where|gather {row} where) ", line)
    if head and condition_is_right(scene, line[head.end():], not line.startswith("if ")):
        return "if" if line.startswith("if ") else "other"
    return None


def wrong_line(scene, text):
    """The number of the first wrong or lacking line, or None."""
    lines = text.split("\n") if text else []
    blocks = []
    is_over = False
    for number, line in enumerate(lines, start=1):
        kind = line_kind(scene, line)
        if kind is None or number > 60 or is_over or (kind == "takes") != (number == 1):
            return number
        if kind == "gives" and blocks or kind == "else" and blocks[-1:] != ["if"] or kind == "end" and not blocks:
            return number
        if kind in ("if", "times"):
            if len(blocks) == 10:
                return number
            blocks.append(kind)
        if kind == "else":
            blocks[-1] = kind
        if kind == "end":
            blocks.pop()
        is_over = kind == "gives"
    return None if is_over else len(lines) + 1


# Sayings [13].

def wrong_word(scene, text):
    """The index of the first wrong word of a saying, or the number of words if some are lacking, or None."""
    words = text.split(" ") if text else []
    # What is open, the innermost last: "(", "not" and "block".
    stack = []
    parts, blocks, at = 0, 0, 0
    while True:
        # Something that can be true or false comes next.
        word = words[at] if at < len(words) else None
        if word in ("not", "("):
            if len([sign for sign in stack if sign != "block"]) == 10:
                return at
            stack.append(word)
            at += 1
            continue
        if word in ("all", "some"):
            if "block" in stack or blocks == 3:
                return at
            wrong, at = block_head(words, at)
            if wrong is not None:
                return wrong
            blocks += 1
            stack.append("block")
            continue
        wrong, at = (at, at) if parts == 8 else part_at(scene, words, at)
        if wrong is not None:
            return wrong
        parts += 1
        # Behind it brackets are closed, or another one comes.
        while True:
            while stack[-1:] == ["not"]:
                stack.pop()
            if words[at:at + 1] != [")"] or not stack:
                break
            stack.pop()
            at += 1
        if at == len(words) and not stack:
            return None
        if words[at:at + 1] not in (["and"], ["or"]):
            return at
        at += 1


def block_head(words, at):
    """(first wrong index or None, index behind) of `all NAME (` or `all NAME NAME (`."""
    names = []
    for to in range(at + 1, len(words) + 1):
        word = words[to] if to < len(words) else ""
        if word == "(" and names:
            return None, to + 1
        if len(names) == 2 or word in names or not re.fullmatch(NAME, word):
            return to, to
        names.append(word)
    return len(words), len(words)


def part_at(scene, words, at):
    """(first wrong index or None, index behind) of the part at an index."""
    forms = [[NAME, "missing"], [NAME, "is", NAME], [NAME, "ahead", NAME, one_of(scene.rows)]]
    if scene.marks:
        forms.append([NAME, "has", one_of(scene.marks)])
    if scene.has_lots:
        forms.append([NAME, "with", NAME])
    wrong = at
    for form in forms:
        for many, pattern in enumerate(form):
            if at + many >= len(words) or not re.fullmatch(pattern, words[at + many]):
                wrong = max(wrong, at + many)
                break
        else:
            return None, at + len(form)
    return wrong, wrong
