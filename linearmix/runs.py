"""Runs by the plain rules: outcomes, steps, and what was begun, made and read."""

from linearmix.counting import PLAIN_MOST, need_count
from linearmix.scripts import let_by_script
from linearmix.working import Run


class Story:
    """A run with a bound: it, and how it ended."""

    def __init__(self, script, steps):
        self.run = Run(script)
        self.word, self.text, _ = self.run.outcome(script.bodies[()], {}, steps)

    def outcome(self):
        """The outcome of the run."""
        return (self.word, self.text, list(self.run.shown))

    def events(self):
        """(steps done, what happens then) of all that is shown, and of the end, if it is one."""
        rows = [(at, "show", text) for text, at in zip(self.run.shown, self.run.shown_at)]
        return rows if self.word == "steps" else rows + [(self.run.steps, self.word, self.text)]


def story_of(program, steps):
    """The story of a program that is let by, with a bound."""
    script = let_by_script(program)
    need_count(steps, PLAIN_MOST)
    return Story(script, steps)


def run(program, steps):
    """The outcome of a program: how it ended, with what, and what it showed."""
    return story_of(program, steps).outcome()


def steps_of(program, steps):
    """How many steps are done."""
    return story_of(program, steps).run.steps


def calls_of(program, steps):
    """(depth, class, name) of all bodies that are begun, in their sequence."""
    return list(story_of(program, steps).run.begun)


def first_unlike(program, other, steps):
    """The least bound at which the outcomes of two programs differ; None if they end alike."""
    first = let_by_script(program)
    second = let_by_script(other)
    need_count(steps, PLAIN_MOST)
    one, two = Story(first, steps), Story(second, steps)
    if one.outcome() == two.outcome():
        return None
    return min(unlike_bounds(one.events(), two.events()))


def unlike_bounds(ones, others):
    """The bounds at which two lists of (steps, what happens then) begin to differ."""
    for at in range(max(len(ones), len(others))):
        here = [events[at] for events in (ones, others) if at < len(events)]
        if len(here) == 1 or here[0] != here[1]:
            return [event[0] for event in here]
    return []


def things_made(program, steps):
    """The names of the first parts of all objects, in the sequence in which they were begun."""
    return list(story_of(program, steps).run.made)


def reads(program, steps):
    """(class, val, ready or not) of all reads of vals of this."""
    return list(story_of(program, steps).run.readings)
