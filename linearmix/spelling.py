"""How trees are spelled: the tokens of a text, and a text as a source for the reader."""

from linearmix.atoms import (NAME_LENGTH, atom_fits, is_text, letter_fits,
                             spelled_as_name)
from linearmix.errors import BadText
from linearmix.grammar import CHOICES, LETTERS, heads_of

DIGITS_MOST = 60

# What a word stands for, where it is not itself.
SPELLED = {"yes": True, "no": False, "none0": None, "-0": ""}


def written(thing):
    """The text of a program, or of a part that is a tuple."""
    if not isinstance(thing, tuple):
        return written_atom(thing)
    if len(thing) == 2 and thing[0] in ("text", "stop"):
        return "(" + thing[0] + ' "' + thing[1] + '")'
    return "(" + " ".join([written(part) for part in thing]) + ")"


def written_atom(thing):
    """The word of an atom that is no text."""
    for word, worth in SPELLED.items():
        if type(worth) is type(thing) and worth == thing:
            return word
    return str(thing)


def is_number(word):
    """Whether a word is a number as it is written, of no more digits than may be."""
    digits = word[1:] if word.startswith("-") else word
    if not (digits.isascii() and digits.isdigit()) or len(digits) > DIGITS_MOST:
        return False
    return word == "0" or digits[0] != "0"


def worth_of(word):
    """The atom that a word stands for; a word that is none stands for itself."""
    if word in SPELLED:
        return SPELLED[word]
    return int(word) if is_number(word) else word


def could_become(sort, word, taken):
    """Whether a word that the end cuts off may begin one that stands for an atom."""
    if sort in LETTERS:
        if not spelled_as_name(word) or not letter_fits(sort, word):
            return False
        # A shorter one can always go on so that it is neither a word nor taken.
        return len(word) < NAME_LENGTH or (atom_fits(sort, word) and word not in taken)
    if sort == "number":
        return word == "-" or is_number(word)
    choices = CHOICES[sort] if sort in CHOICES else heads_of(sort)
    return any([written_atom(choice).startswith(word) for choice in choices])


def end_of_word(text, start):
    """The index behind the word that begins at start."""
    at = start
    while at < len(text) and text[at] not in ' \n()"':
        at += 1
    return at


def token_at(text, start):
    """The token that begins at start: (sort, start, what it holds), and its end."""
    if text[start] in "()":
        return (text[start], start, ""), start + 1
    if text[start] == '"':
        close = text.find('"', start + 1)
        if close < 0:
            return ("cut text", start, text[start + 1:]), len(text)
        return ("text", start, text[start + 1:close]), close + 1
    end = end_of_word(text, start)
    return ("cut word" if end == len(text) else "word", start, text[start:end]), end


def tokens_of(text):
    """The tokens of a text, from the left, the end of the text as the last one."""
    tokens = []
    at = 0
    while at < len(text):
        if text[at] in " \n":
            at += 1
        else:
            token, at = token_at(text, at)
            tokens.append(token)
    tokens.append(("end", len(text), ""))
    return tokens


class TextSource:
    """A text that is gone through, from the left, as far as it fits."""

    def __init__(self, text):
        self.tokens = tokens_of(text)
        self.at = 0

    def is_next(self, sort):
        """Whether a token of the sort is next."""
        return self.tokens[self.at][0] == sort

    def is_over(self):
        """Whether the tuple at hand has nothing more."""
        return self.is_next(")")

    def opens(self):
        """Whether a tuple is next."""
        return self.is_next("(")

    def enter(self):
        """Goes into the tuple that is next."""
        self.step("(")

    def leave(self):
        """Goes out of the tuple at hand, which has to be over."""
        self.step(")")

    def finish(self):
        """Makes sure that nothing stands behind."""
        if not self.is_next("end"):
            self.fail()

    def step(self, sort):
        """Goes behind the next token, which has to be of the sort."""
        if not self.is_next(sort):
            self.fail()
        self.at += 1

    def atom(self, sort, taken):
        """The atom that is next; if the end cuts it off, the end is told, not the atom."""
        shape, _, word = self.tokens[self.at]
        if self.is_cut_start(sort, taken):
            raise BadText(self.tokens[-1][1])
        if shape != ("text" if sort == "text" else "word"):
            self.fail()
        worth = word if sort == "text" else worth_of(word)
        if not atom_fits(sort, worth) or worth in taken:
            self.fail()
        self.at += 1
        return worth

    def is_cut_start(self, sort, taken):
        """Whether the end cuts off what is next, which could still become right."""
        shape, _, word = self.tokens[self.at]
        if shape == "cut text":
            return sort == "text" and is_text(word)
        return shape == "cut word" and could_become(sort, word, taken)

    def fail(self):
        """Tells that what is next can not stand, at its first character."""
        raise BadText(self.tokens[self.at][1])
