"""What goes wrong within the package and is told outside in another way."""


class Fault(Exception):
    """A program, or an expression, is wrong: the word of point 12, and where."""

    def __init__(self, word, where):
        super().__init__(f"{word} at {where}")
        self.word = word
        self.where = where


class NoWay(Exception):
    """A path can not be gone, or what it leads to has no such kind member."""

    def __init__(self, word):
        super().__init__(word)
        self.word = word


class Endless(Exception):
    """A search would go on too long; kind is that of the search told for it."""

    def __init__(self, kind):
        super().__init__("endless")
        self.kind = kind


class Ended(Exception):
    """A run ends otherwise than with what main is: the word of its outcome, and what is told."""

    def __init__(self, word, text):
        super().__init__(f"{word} {text}")
        self.word = word
        self.text = text
