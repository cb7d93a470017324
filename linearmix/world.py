"""What the lines of a session leave: objects, lazies, and what their names stand for."""

from linearmix.counting import PLAIN_MOST
from linearmix.working import Run


class Line:
    """A line: its name, its found tree, the script it is worked with, and what it showed."""

    def __init__(self, name, node, script):
        self.name = name
        self.node = node
        self.script = script
        self.texts = []


class World:
    """What lines have left that were worked one behind the other."""

    def __init__(self):
        self.run = None
        self.names = {}

    def worked(self, line):
        """(word, told) of a line that is worked behind those ahead of it."""
        if self.run is None:
            self.run = Run(line.script)
        self.run.use(line.script)
        word, text, worth = self.run.outcome(line.node, self.names, PLAIN_MOST)
        line.texts = list(self.run.shown)
        if word == "value" and line.name is not None:
            names = dict(self.names)
            names[line.name] = worth
            self.names = names
        return word, text
