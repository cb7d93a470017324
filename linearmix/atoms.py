"""Names, numbers, texts and choices: what stands in trees beside tuples."""

from linearmix.grammar import CHOICES, FORMS, LETTERS

NAME_LENGTH = 12
TEXT_LENGTH = 40

# No name is one of these; they are all that point 7 counts as words.
WORDS = {
    "and": True, "any": True, "apply": True, "bind": True, "call": True,
    "class": True, "def": True, "extend": True, "fun": True, "given": True,
    "if": True, "int": True, "is": True, "join": True, "kind": True,
    "lazy": True, "let": True, "lit": True, "match": True, "name": True,
    "new": True, "no": True, "none": True, "none0": True, "object": True,
    "of": True, "op": True, "or": True, "part": True, "show": True,
    "stop": True, "summon": True, "super": True, "text": True, "then": True,
    "this": True, "trait": True, "truth": True, "unit": True, "val": True,
    "var": True, "with": True, "yes": True,
}


def spelled_as_name(word):
    """Whether a str is of letters and digits, a letter first, words too."""
    return word.isascii() and word.isalnum() and word[0].isalpha()


def is_name(thing):
    """Whether any object is a name, of either first letter."""
    return (isinstance(thing, str) and len(thing) <= NAME_LENGTH
            and spelled_as_name(thing) and thing not in WORDS)


def is_big(word):
    """Whether a word begins with a capital letter."""
    return "A" <= word[0] <= "Z"


def letter_fits(sort, word):
    """Whether the first letter is as the sort of name wants it."""
    letter = LETTERS[sort]
    return letter == "either" or is_big(word) == (letter == "big")


def is_integer(thing):
    """Whether any object is an int and no bool."""
    return isinstance(thing, int) and not isinstance(thing, bool)


def is_text(thing):
    """Whether any object is a text that may stand in a tree."""
    return (isinstance(thing, str) and len(thing) <= TEXT_LENGTH
            and all([" " <= c <= "~" and c != '"' and c != "\\" for c in thing]))


def is_choice(sort, thing):
    """Whether any object is one of a sort's choices; 1 is not True."""
    return any([type(thing) is type(one) and thing == one for one in CHOICES[sort]])


def atom_fits(sort, thing):
    """Whether any object is an atom of the sort; of forms their word is meant."""
    if sort in LETTERS:
        if sort == "path start" and thing == "this":
            return True
        return is_name(thing) and letter_fits(sort, thing)
    if sort in CHOICES:
        return is_choice(sort, thing)
    if sort == "number":
        return is_integer(thing)
    if sort == "text":
        return is_text(thing)
    return isinstance(thing, str) and (sort, thing) in FORMS
