"""Runs by the plain rules (points 26, 27), by a stack of tasks, so that nothing has to nest."""

from linearmix.faults import Ended
from linearmix.model import form_of
from linearmix.plainthings import ByName, Env, Once, PlainTeller, Thing
from linearmix.scripts import is_single
from linearmix.workends import ENDS, with_params
from linearmix.workers import WORKERS

BODIES_MOST = 100


class Run:
    """A run of a script: tasks to be done, the last first, and worths that came of those done.

    A task is a tuple that begins with a word of TASKS or ENDS.
    """

    def __init__(self, script):
        self.script = script
        self.model = script.model
        self.singles = {}
        self.tasks = []
        self.worths = []
        self.depth = 0
        self.steps = 0
        self.bound = 0
        self.shown = []
        self.shown_at = []
        self.begun = []
        self.made = []
        self.readings = []

    def use(self, script):
        """Goes on with a script that has more definitions, or less."""
        self.script = script
        self.model = script.model

    def outcome(self, node, names, bound):
        """(word, told) of an expression worked with names, within so many steps; and its worth."""
        self.steps = 0
        self.bound = bound
        self.shown = []
        self.shown_at = []
        self.tasks = [("eval", node, Env(None, None, names, {}))]
        try:
            self.work()
            worth = self.worths.pop()
            told = self.told(worth)
        except Ended as ended:
            self.leave_all()
            return ended.word, ended.text, None
        return "value", told, worth

    def work(self):
        """Does all tasks."""
        while self.tasks:
            task = self.tasks.pop()
            work = TASKS[task[0]] if task[0] in TASKS else ENDS[task[0]]
            work(self, task)

    def leave_all(self):
        """Leaves what is under way as if it had not been begun."""
        for once in [task[1] for task in self.tasks if task[0] == "keep"]:
            once.state = "fresh"
        self.tasks = []
        self.worths = []
        self.depth = 0

    def step(self):
        """Counts a step, which has to be within the bound."""
        if self.steps == self.bound:
            raise Ended("steps", "")
        self.steps += 1

    def told(self, thing):
        """What is told of a thing."""
        return PlainTeller(self.model).told(thing, 0)

    def add(self, tasks):
        """Adds tasks, of which the first one is done first."""
        self.tasks.extend(list(reversed(list(tasks))))

    def taken(self, many):
        """The last so many worths, which are taken away."""
        start = len(self.worths) - many
        worths = self.worths[start:]
        del self.worths[start:]
        return worths

    def begin(self, owner, name, where, env):
        """Begins the body of a def, val, lazy or given; owner is "" for those of the program."""
        if self.depth == BODIES_MOST:
            raise Ended("deep", "")
        self.depth += 1
        self.begun.append((self.depth, owner, name))
        self.add([("eval", self.script.bodies[where], env), ("leave",)])

    def read(self, worth):
        """Reads what a name stands for."""
        if isinstance(worth, ByName):
            self.add([("eval", worth.node, worth.env)])
        elif isinstance(worth, Once):
            self.read_once(worth)
        else:
            self.worths.append(worth)

    def read_once(self, once):
        """Reads what is worked at its first reading."""
        if once.state == "under way":
            raise Ended("round", once.label)
        if once.state == "done":
            self.worths.append(once.worth)
            return
        once.state = "under way"
        self.add([once.task, ("keep", once)])

    def read_single(self, name):
        """Reads an object, or a given of the program without kind parameters and wants."""
        if name not in self.singles:
            if self.model.is_object(name):
                self.singles[name] = Once(name, ("make", (name,), 0, True))
            else:
                self.singles[name] = Once(name, ("body", "", name, (name,), Env(None, None, {}, {})))
        self.read_once(self.singles[name])

    def invoke(self, thing, order, name, worths):
        """Calls a def on an object: the first body for it in the order, or behind in it."""
        owner = self.model.first_body(order, name)
        member = self.model.classes[owner].table[name]
        env = Env(thing, owner, {}, {})
        self.begin(owner, name, (owner, name), with_params(env, member, worths))


def task_eval(run, task):
    """Begins an expression."""
    run.step()
    _, node, env = task
    work = WORKERS[node.tree[0][0]]
    work(run, node, env)


def task_leave(run, task):
    """A body is done."""
    run.depth -= 1


def task_keep(run, task):
    """What is worked once is done."""
    once = task[1]
    once.state = "done"
    once.worth = run.worths[-1]


def task_body(run, task):
    """Begins a body."""
    _, owner, name, where, env = task
    run.begin(owner, name, where, env)


def task_suspend(run, task):
    """An arg for a param that is by name."""
    run.worths.append(ByName(task[1], task[2]))


def task_evidence(run, task):
    """Works evidence."""
    _, evidence, env = task
    label, _, inner = evidence
    if isinstance(label, tuple):
        run.read_once(env.this.onces[label[1]])
    elif label in env.givens:
        run.worths.append(env.givens[label])
    else:
        given = run.script.definition(label)
        if is_single(given):
            run.read_single(label)
        else:
            wants = [want for want, _ in given[3]]
            run.add([("evidence", one, env) for one in inner] + [("given", label, wants)])


def task_given(run, task):
    """Works a given of the program, its wants being there."""
    _, name, wants = task
    env = Env(None, None, {}, {})
    for want, worth in zip(wants, run.taken(len(wants))):
        env = env.with_given(want, worth)
    run.begin("", name, (name,), env)


def task_make(run, task):
    """Begins to make an object, its own args being there."""
    _, names, many, is_defined = task
    order = run.script.order(names)
    thing = Thing(names, order, is_defined)
    run.made.append(names[0])
    run.add([("vparams", thing, names[0], many), ("fill", thing), ("worth", thing)])


def task_vparams(run, task):
    """The vparams of a class are there; the args of its first parent come next."""
    _, thing, name, many = task
    entry = run.model.classes[name]
    vparams = [vparam for vparam, _ in entry.vparams]
    worths = dict(list(zip(vparams, run.taken(many))))
    for vparam in vparams:
        thing.ready[vparam] = worths[vparam]
    if run.script.parent_class(name) is not None:
        parent, _, args = entry.parents[0]
        env = Env(None, None, worths, {})
        nodes = [run.script.bodies[(name, at)] for at in range(len(args))]
        run.add([("eval", node, env) for node in nodes] + [("vparams", thing, parent, len(args))])


def task_fill(run, task):
    """The lazies and givens of an object come to be; then its vals are worked, from the far end."""
    thing = task[1]
    for name in run.model.member_names(thing.order):
        owner = run.model.first_body(thing.order, name)
        if owner is not None and form_of(run.model.classes[owner].table[name]) in ("lazy", "given"):
            run.step()
            around = Env(thing, owner, {}, {})
            label = owner + " " + name
            thing.onces[name] = Once(label, ("body", owner, name, (owner, name), around))
    run.add([("val", thing, owner, name) for owner, name in run.script.val_bodies(thing.order)])


def task_val(run, task):
    """Begins a val of an object that is being made."""
    _, thing, owner, name = task
    run.add([("ready", thing, name)])
    run.begin(owner, name, (owner, name), Env(thing, owner, {}, {}))


def task_ready(run, task):
    """A val is ready."""
    _, thing, name = task
    thing.ready[name] = run.worths.pop()


def task_worth(run, task):
    """A thing that is known."""
    run.worths.append(task[1])


TASKS = {
    "eval": task_eval, "leave": task_leave, "keep": task_keep, "body": task_body,
    "suspend": task_suspend, "evidence": task_evidence, "given": task_given, "make": task_make,
    "vparams": task_vparams, "fill": task_fill, "val": task_val, "ready": task_ready,
    "worth": task_worth,
}
