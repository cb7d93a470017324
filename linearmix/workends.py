"""What comes of an expression by the plain rules, when what stands in it is there (point 27)."""

from linearmix.faults import Ended
from linearmix.plainthings import Env, Thing
from linearmix.things import UNIT, are_equal, op_worth


def end_val(run, task):
    """A member of an object is read."""
    node = task[1]
    e = node.tree[0]
    thing = run.worths.pop()
    if e[2] in thing.onces:
        run.read_once(thing.onces[e[2]])
        return
    owner = run.model.first_body(thing.order, e[2])
    is_ready = e[2] in thing.ready
    if e[1] == ("this",):
        run.readings.append((owner, e[2], is_ready))
    if not is_ready:
        raise Ended("unready", owner + " " + e[2])
    run.worths.append(thing.ready[e[2]])


def end_call(run, task):
    """A def is called on an object."""
    _, name, many = task
    worths = run.taken(many)
    thing = run.worths.pop()
    run.invoke(thing, thing.order, name, worths)


def end_super(run, task):
    """The def behind the class of the body is called."""
    _, name, many, env = task
    order = env.this.order
    run.invoke(env.this, order[order.index(env.owner) + 1:], name, run.taken(many))


def end_extended(run, task):
    """A def of an extension is called; its wants stand behind the args, ahead of the def's."""
    _, extension, name, many = task
    worths = run.taken(many)
    definition = run.script.definition(extension)
    member = run.script.def_of(extension, name)
    args = worths[:len(member[3])]
    givens = worths[len(member[3]):]
    env = Env(None, None, {definition[3][0]: run.worths.pop()}, {})
    wants = [want for want, _ in definition[4]]
    for want, worth in zip(wants, givens):
        env = env.with_given(want, worth)
    env = with_params(env, member, args + givens[len(wants):])
    run.begin("", name, (extension, name), env)


def with_params(env, member, worths):
    """What stands around the body of a def, with worths for its params and its wants."""
    params = [param[0] for param in member[3]]
    env = env.with_names(dict(list(zip(params, worths))))
    for want, worth in zip(member[4], worths[len(params):]):
        env = env.with_given(want[0], worth)
    return env


def end_apply(run, task):
    """A fun is applied."""
    worths = run.taken(task[1])
    fun = run.worths.pop()
    params = [name for name, _ in fun.node.tree[0][1]]
    run.add([("eval", fun.node.parts[0], fun.env.with_names(dict(list(zip(params, worths)))))])


def end_if(run, task):
    """The condition of an if is there."""
    _, first, second, env = task
    run.add([("eval", first if run.worths.pop() else second, env)])


def end_let(run, task):
    """The first of a let, or of a given of a let, is there."""
    _, node, env = task
    e = node.tree[0]
    worth = run.worths.pop()
    inner = env.with_given(e[1], worth) if e[0] == "given" else env.with_names({e[1]: worth})
    run.add([("eval", node.parts[1], inner)])


def end_cases(run, task):
    """What is matched is there: the first case that takes it."""
    _, node, env = task
    thing = run.worths.pop()
    for at, (pattern, _) in enumerate(node.tree[0][2]):
        names = {}
        if is_held(run, pattern, thing, names):
            run.add([("eval", node.parts[1 + at], env.with_names(names))])
            return
    raise Ended("unmatched", run.told(thing))


def is_held(run, pattern, thing, names):
    """Whether a pattern takes a thing; the names that it binds are put into a dict."""
    run.step()
    word = pattern[0]
    if word == "lit":
        return are_equal(thing, pattern[1][1])
    if word == "bind":
        names[pattern[1]] = thing
    if word == "is":
        names[pattern[1]] = thing
        return is_of(thing, pattern[2])
    if word == "of":
        if not is_of(thing, pattern[1]):
            return False
        vparams = run.model.classes[pattern[1]].vparams
        for inner, (name, _) in zip(pattern[2], vparams):
            if not is_held(run, inner, thing.ready[name], names):
                return False
    return True


def is_of(thing, name):
    """Whether a thing is an object with a class in its order."""
    return isinstance(thing, Thing) and name in thing.order


def end_show(run, task):
    """A thing is shown."""
    run.shown.append(run.told(run.worths.pop()))
    run.shown_at.append(run.steps)
    run.worths.append(UNIT)


def end_drop(run, task):
    """A thing is dropped."""
    run.worths.pop()


def end_op(run, task):
    """Both operands of an op are there."""
    one, other = run.taken(2)
    run.worths.append(op_worth(task[1], one, other))


def end_word(run, task):
    """The first operand of an and, or an or, is there."""
    _, word, second, env = task
    first = run.worths.pop()
    if first == (word == "and"):
        run.add([("eval", second, env)])
    else:
        run.worths.append(first)


ENDS = {
    "val of": end_val, "invoke": end_call, "above": end_super, "extended": end_extended,
    "apply": end_apply, "if": end_if, "let": end_let, "cases": end_cases, "show": end_show,
    "drop": end_drop, "op": end_op, "word": end_word,
}
