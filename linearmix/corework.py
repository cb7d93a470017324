"""How each c is begun, and what comes of it when what stands in it is there (point 31)."""

from linearmix.corethings import CoreFun, Instance, Kept, Late, Stuck
from linearmix.faults import Ended
from linearmix.things import UNIT, op_worth


def work_own(machine, c, frame):
    """An integer, a text or a truth."""
    machine.worths.append(c[1])


def work_unit(machine, c, frame):
    """The unit."""
    machine.worths.append(UNIT)


def work_local(machine, c, frame):
    """A local."""
    machine.worths.append(frame.cells[c[1]])


def work_late(machine, c, frame):
    """A late comes to be."""
    machine.worths.append(Late(c[1], frame.again()))


def work_once(machine, c, frame):
    """A once comes to be."""
    machine.worths.append(Kept(c[1], c[2], frame.again()))


def work_fun(machine, c, frame):
    """A fun comes to be."""
    machine.worths.append(CoreFun(c[1], c[2], frame.again()))


def work_single(machine, c, frame):
    """A single is read."""
    kept = machine.once_worked[c[1]]
    if read_kept(machine, kept):
        machine.add([("keep", kept, frame)])
        machine.begin(machine.singles[c[1]][0], [])


def read_kept(machine, kept):
    """Whether what is worked once has to be worked now; else what it was is there."""
    if kept.state == "under way":
        raise Ended("round", kept.label)
    if kept.state == "done":
        machine.worths.append(kept.worth)
        return False
    kept.state = "under way"
    return True


def work_one(machine, c, frame):
    """A c that first needs the one c in it, which stands first."""
    machine.add([("c", c[1], frame), (c[0], c, frame)])


def work_second(machine, c, frame):
    """A c that first needs the c that stands second in it."""
    machine.add([("c", c[2], frame), (c[0], c, frame)])


def work_two(machine, c, frame):
    """An op, of which both are needed."""
    machine.add([("c", c[2], frame), ("c", c[3], frame), ("op", c, frame)])


def work_row(machine, c, frame):
    """A direct or a make, of which all c's are needed."""
    machine.add([("c", one, frame) for one in c[2]] + [(c[0], c, frame)])


def work_send(machine, c, frame):
    """A send: what it is sent to, then the others."""
    machine.add([("c", c[1], frame)] + [("c", one, frame) for one in c[3]] + [("send", c, frame)])


def work_apply(machine, c, frame):
    """An apply: the fun, then the others."""
    machine.add([("c", c[1], frame)] + [("c", one, frame) for one in c[2]] + [("apply", c, frame)])


def end_slot(machine, c, frame):
    """A slot is read."""
    machine.worths.append(machine.slot_of(machine.worths.pop(), c[2]))


def end_fill(machine, c, frame):
    """A slot of this is filled; then the second is worked."""
    worth = machine.worths.pop()
    thing = machine.instance(frame.cells[0])
    if c[1] >= len(machine.tables[thing.table][3]):
        raise Stuck("no such slot")
    thing.slots[c[1]] = worth
    machine.add([("c", c[3], frame)])


def end_send(machine, c, frame):
    """The body that an object's table has for a selector is begun."""
    worths = machine.taken(len(c[3]))
    thing = machine.instance(machine.worths.pop())
    rows = machine.rows[thing.table]
    if c[2] not in rows:
        raise Stuck("no such row")
    machine.begin(rows[c[2]], [thing] + worths)


def end_direct(machine, c, frame):
    """A body is begun."""
    machine.begin(c[1], machine.taken(len(c[2])))


def end_make(machine, c, frame):
    """An object comes to be, and its table's begin is begun."""
    thing = Instance(c[1])
    worths = [thing] + machine.taken(len(c[2]))
    machine.add([("swap", thing, frame)])
    machine.begin(machine.tables[c[1]][5], worths)


def end_swap(machine, thing, frame):
    """A thing stands in the place of what a begin was."""
    machine.worths[-1] = thing


def end_leave(machine, thing, frame):
    """A body is done."""
    machine.depth -= 1


def end_keep(machine, kept, frame):
    """What is worked once is done."""
    kept.state = "done"
    kept.worth = machine.worths[-1]


def end_now(machine, c, frame):
    """A late is worked."""
    late = machine.worths.pop()
    if not isinstance(late, Late):
        raise Stuck("no late")
    machine.add([("c", late.c, late.frame.again())])


def end_first(machine, c, frame):
    """A once is read."""
    kept = machine.worths.pop()
    if not isinstance(kept, Kept):
        raise Stuck("no once")
    if read_kept(machine, kept):
        machine.add([("c", kept.c, kept.frame.again()), ("keep", kept, frame)])


def end_apply(machine, c, frame):
    """A fun is applied."""
    worths = machine.taken(len(c[2]))
    fun = machine.worths.pop()
    if not isinstance(fun, CoreFun) or len(fun.numbers) != len(worths):
        raise Stuck("no fun of so many")
    inner = fun.frame.again()
    for number, worth in zip(fun.numbers, worths):
        inner.cells[number] = worth
    machine.add([("c", fun.c, inner)])


def end_if(machine, c, frame):
    """The truth of an if is there."""
    truth = machine.worths.pop()
    if not isinstance(truth, bool):
        raise Stuck("no truth")
    machine.add([("c", c[2] if truth else c[3], frame)])


def end_let(machine, c, frame):
    """The first of a let is there."""
    frame.cells[c[1]] = machine.worths.pop()
    machine.add([("c", c[3], frame)])


def end_among(machine, c, frame):
    """Whether a thing is an object of one of some tables."""
    thing = machine.worths.pop()
    machine.worths.append(isinstance(thing, Instance) and thing.table in c[2])


def end_show(machine, c, frame):
    """A thing is shown."""
    machine.shown.append(machine.told(machine.worths.pop()))
    machine.worths.append(UNIT)


def end_then(machine, c, frame):
    """The first of a then is dropped."""
    machine.worths.pop()
    machine.add([("c", c[2], frame)])


def end_op(machine, c, frame):
    """Both of an op are there."""
    one, other = machine.taken(2)
    if not all([op_fits(c[1], thing) for thing in (one, other)]):
        raise Stuck("no thing for this op")
    machine.worths.append(op_worth(c[1], one, other))


def op_fits(word, thing):
    """Whether a thing may be an operand of an op."""
    if word == "=":
        return not isinstance(thing, (Late, Kept))
    if word == "join":
        return isinstance(thing, str)
    return isinstance(thing, int) and not isinstance(thing, bool)


def end_stop(machine, c, frame):
    """The run ends, with a text or with what is told of a thing."""
    thing = machine.worths.pop()
    if c[1] == "unmatched":
        raise Ended("unmatched", machine.told(thing))
    if not isinstance(thing, str):
        raise Stuck("no text")
    raise Ended("stop", thing)


BEGINS = {
    "int": work_own, "text": work_own, "truth": work_own, "unit": work_unit, "local": work_local,
    "slot": work_one, "fill": work_second, "send": work_send, "direct": work_row, "make": work_row,
    "single": work_single, "late": work_late, "now": work_one, "once": work_once, "first": work_one,
    "fun": work_fun, "apply": work_apply, "if": work_one, "let": work_second, "among": work_one,
    "show": work_one, "then": work_one, "op": work_two, "stop": work_second,
}

ENDS = {
    "slot": end_slot, "fill": end_fill, "send": end_send, "direct": end_direct, "make": end_make,
    "swap": end_swap, "leave": end_leave, "keep": end_keep, "now": end_now, "first": end_first,
    "apply": end_apply, "if": end_if, "let": end_let, "among": end_among, "show": end_show,
    "then": end_then, "op": end_op, "stop": end_stop,
}
