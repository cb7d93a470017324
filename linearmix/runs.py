"""Runs by the plain rules: outcomes, steps, and what was begun, made and read."""

from linearmix.counting import PLAIN_MOST, need_count
from linearmix.scripts import let_by_script
from linearmix.working import Run


class Story:
    """A run with a bound: it, and how it ended."""

    def __init__(self, script, steps):
        self.run = Run(script)
        self.word, self.text, _ = self.run.outcome(script.bodies[()], {}, steps)

    def at_bound(self, steps):
        """The outcome with a bound that is no greater."""
        if self.word != "steps" and self.run.steps <= steps:
            return (self.word, self.text, list(self.run.shown))
        shown = [text for text, at in zip(self.run.shown, self.run.shown_at) if at <= steps]
        return ("steps", "", shown)


def story_of(program, steps):
    """The story of a program that is let by, with a bound."""
    script = let_by_script(program)
    need_count(steps, PLAIN_MOST)
    return Story(script, steps)


def run(program, steps):
    """The outcome of a program: how it ended, with what, and what it showed."""
    return story_of(program, steps).at_bound(steps)


def steps_of(program, steps):
    """How many steps are done."""
    return story_of(program, steps).run.steps


def calls_of(program, steps):
    """(depth, class, name) of all bodies that are begun, in their sequence."""
    return list(story_of(program, steps).run.begun)


def first_unlike(program, other, steps):
    """The least bound at which the outcomes of two programs differ; None if they end alike."""
    first = let_by_script(program)
    second = let_by_script(other)
    need_count(steps, PLAIN_MOST)
    one, two = Story(first, steps), Story(second, steps)
    if one.at_bound(steps) == two.at_bound(steps):
        return None
    for bound in range(steps):
        if one.at_bound(bound) != two.at_bound(bound):
            return bound
    return steps


def things_made(program, steps):
    """The names of the first parts of all objects, in the sequence in which they were begun."""
    return list(story_of(program, steps).run.made)


def reads(program, steps):
    """(class, val, ready or not) of all reads of vals of this."""
    return list(story_of(program, steps).run.readings)
