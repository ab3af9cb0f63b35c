"""What texts are made of: lines, names, and the names that a form gives."""

LETTERS = "abcdefghijklmnopqrstuvwxyz"
LONGEST = 12
# No name is one of these words.
WORDS = {
    "row": 1, "mark": 1, "unmark": 1, "lot": 1, "lots": 1, "takes": 1, "gives": 1, "next": 1, "prev": 1, "first": 1,
    "last": 1, "where": 1, "nothing": 1, "if": 1, "else": 1, "end": 1, "times": 1, "put": 1, "swap": 1, "turn": 1,
    "sort": 1, "gather": 1, "by": 1, "ahead": 1, "behind": 1, "is": 1, "has": 1, "with": 1, "missing": 1, "it": 1,
    "and": 1, "or": 1, "not": 1, "all": 1, "some": 1,
}


def lines_of(text):
    """The lines of a text; the empty text has none."""
    if text == "":
        return []
    return text.split("\n")


def is_name(text):
    """Whether a text is a name."""
    if not 1 <= len(text) <= LONGEST or text in WORDS:
        return False
    return text.isascii() and text.isalpha() and text.islower()


def form_names(many):
    """The names that a form gives to so many things: a, b, c and so on."""
    names = []
    at = 0
    while len(names) < many:
        text = letters_at(at)
        # Behind z stand texts of two letters, and some of these are words that are no names.
        if is_name(text):
            names.append(text)
        at += 1
    return names


def letters_at(at):
    """The text at an index of the row a, b, .., z, aa, ab and so on."""
    text = ""
    while at >= 0:
        text = LETTERS[at % len(LETTERS)] + text
        at = at // len(LETTERS) - 1
    return text
