"""How each expression is begun by the plain rules (point 27): as tasks, or as a thing at once."""

from linearmix.faults import Ended
from linearmix.plainthings import Fun, Once
from linearmix.things import UNIT


def work_literal(run, node, env):
    """An integer, a text or a truth."""
    run.worths.append(node.tree[0][1])


def work_unit(run, node, env):
    """The unit."""
    run.worths.append(UNIT)


def work_name(run, node, env):
    """A name: what stands for it, or the object of that name."""
    name = node.tree[0][1]
    if name in env.names:
        run.read(env.names[name])
    else:
        run.read_single(name)


def work_this(run, node, env):
    """This."""
    run.worths.append(env.this)


def work_val(run, node, env):
    """A val, lazy, given or vparam of what is read from."""
    run.add([("eval", node.parts[0], env), ("val of", node)])


def args_of(node, first, params, env):
    """Tasks for the args of a call, which begin at a part; params tell which are by name."""
    return [("suspend" if param[2] else "eval", node.parts[first + at], env)
            for at, param in enumerate(params)]


def givens_of(node, written, first, env):
    """Tasks for the givens of a call: those written, the parts from a number on, or its evidence."""
    if written is not None:
        return [("eval", part, env) for part in node.parts[first:]]
    return [("evidence", one, env) for one in node.tree[3][-1]]


def work_call(run, node, env):
    """A call of a def of an object, or of an extension."""
    _, _, name, _, args, written = node.tree[0]
    more = node.tree[3]
    member = run.script.def_of(more[1] if more[0] == "extend" else more[0], name)
    tasks = [("eval", node.parts[0], env)] + args_of(node, 1, member[3], env)
    tasks.extend(givens_of(node, written, 1 + len(args), env))
    many = len(args) + len(node.tree[3][-1])
    if more[0] == "extend":
        run.add(tasks + [("extended", more[1], name, many)])
    else:
        run.add(tasks + [("invoke", name, many)])


def work_super(run, node, env):
    """A super."""
    _, name, _, args, written = node.tree[0]
    member = run.script.def_of(node.tree[3][0], name)
    tasks = args_of(node, 0, member[3], env) + givens_of(node, written, len(args), env)
    run.add(tasks + [("above", name, len(args) + len(node.tree[3][-1]), env)])


def work_new(run, node, env):
    """A new: its args, then the making."""
    names = tuple([part[0] for part in node.tree[0][1]])
    tasks = [("eval", part, env) for part in node.parts]
    run.add(tasks + [("make", names, len(node.parts), False)])


def work_fun(run, node, env):
    """A fun."""
    run.worths.append(Fun(node, env))


def work_apply(run, node, env):
    """An apply."""
    run.add([("eval", part, env) for part in node.parts] + [("apply", len(node.parts) - 1)])


def work_if(run, node, env):
    """An if."""
    run.add([("eval", node.parts[0], env), ("if", node.parts[1], node.parts[2], env)])


def work_let(run, node, env):
    """A let, or a given of a let: the first, then the rest."""
    run.add([("eval", node.parts[0], env), ("let", node, env)])


def work_lazy(run, node, env):
    """A lazy of a let, which is worked when it is first read."""
    name = node.tree[0][1]
    once = Once(name, ("eval", node.parts[0], env))
    run.add([("eval", node.parts[1], env.with_names({name: once}))])


def work_match(run, node, env):
    """A match: what is matched, then the cases."""
    run.add([("eval", node.parts[0], env), ("cases", node, env)])


def work_summon(run, node, env):
    """A summon."""
    run.add([("evidence", node.tree[3], env)])


def work_show(run, node, env):
    """A show."""
    run.add([("eval", node.parts[0], env), ("show",)])


def work_then(run, node, env):
    """A then: the first is worked, and dropped."""
    run.add([("eval", node.parts[0], env), ("drop",), ("eval", node.parts[1], env)])


def work_op(run, node, env):
    """An op; and, or look at the second only where it is needed."""
    word = node.tree[0][1]
    if word in ("and", "or"):
        run.add([("eval", node.parts[0], env), ("word", word, node.parts[1], env)])
    else:
        run.add([("eval", node.parts[0], env), ("eval", node.parts[1], env), ("op", word)])


def work_stop(run, node, env):
    """A stop."""
    raise Ended("stop", node.tree[0][1])


WORKERS = {
    "int": work_literal, "text": work_literal, "truth": work_literal, "unit": work_unit,
    "name": work_name, "this": work_this, "val": work_val, "call": work_call, "super": work_super,
    "new": work_new, "fun": work_fun, "apply": work_apply, "if": work_if, "let": work_let,
    "given": work_let, "lazy": work_lazy, "match": work_match, "summon": work_summon,
    "show": work_show, "then": work_then, "op": work_op, "stop": work_stop,
}
