"""What texts are made of: lines, names, and the names that a form gives."""

LETTERS = "abcdefghijklmnopqrstuvwxyz"
LONGEST = 12
WORDS = (
    "row", "mark", "unmark", "lot", "lots", "takes", "gives", "next", "prev", "first", "last", "where",
    "nothing", "if", "else", "end", "times", "put", "swap", "turn", "sort", "gather", "by", "ahead", "behind",
    "is", "has", "with", "missing", "it", "and", "or", "not", "all", "some",
)


def lines_of(text):
    """The lines of a text; the empty text has none."""
    if text == "":
        return []
    return text.split("\n")


def is_name(text):
    """Whether a text is a name."""
    if not 1 <= len(text) <= LONGEST or text in WORDS:
        return False
    return all([letter in LETTERS for letter in text])


def form_names(many):
    """The names that a form gives to so many things: a, b, c and so on."""
    names = []
    at = 0
    while len(names) < many:
        text = letters_at(at)
        # Behind z stand texts of two letters, and some of these are words that are no names.
        if is_name(text):
            names.append(text)
        at += 1
    return names


def letters_at(at):
    """The text at an index of the row a, b, .., z, aa, ab and so on."""
    text = ""
    while at >= 0:
        text = LETTERS[at % len(LETTERS)] + text
        at = at // len(LETTERS) - 1
    return text
