"""Better cores: what is reached, and cores that do the same with less."""

from linearmix.atoms import is_integer
from linearmix.coreform import are_ascending, is_number
from linearmix.coremachine import Machine
from linearmix.cores import need_core
from linearmix.corewalk import all_cs
from linearmix.counting import CORE_MOST, need_count
from linearmix.reaching import Reach
from linearmix.shortening import Direct, Left, Short, size_of_core


def reach(core):
    """The ascending numbers of the bodies and of the tables that can be reached."""
    need_core(core)
    return Reach(core).told()


def reach_holds(core, thing):
    """Whether any object is two such tuples, closed by the rules of reach, perhaps greater."""
    need_core(core)
    tables, bodies, _, main = core
    if not isinstance(thing, tuple) or len(thing) != 2:
        return False
    if not are_numbers(thing[0], len(bodies)) or not are_numbers(thing[1], len(tables)):
        return False
    if main not in thing[0]:
        return False
    return all([is_closed(core, c, thing) for number in thing[0] for c in all_cs(bodies[number][2])])


def are_numbers(thing, bound):
    """Whether any object is an ascending tuple of numbers below a bound."""
    return (isinstance(thing, tuple) and all([is_integer(one) and is_number(one, bound) for one in thing])
            and are_ascending(thing))


def is_closed(core, c, told):
    """Whether what a c reaches is among told bodies and tables."""
    tables, _, singles, _ = core
    bodies, made = told
    if c[0] == "direct":
        return c[1] in bodies
    if c[0] == "single":
        return singles[c[1]][0] in bodies
    if c[0] == "make":
        return c[1] in made and tables[c[1]][5] in bodies
    if c[0] == "send":
        return all([number in bodies for table in made for selector, number in tables[table][4]
                    if selector == c[2]])
    return True


def direct_calls(core):
    """The core with directs for sends, where each table reached has the same body."""
    need_core(core)
    return Direct(core).core()


def left_out(core):
    """The core without what is not reached."""
    need_core(core)
    return Left(core).core()


def shortened(core):
    """The core with shorter c's in all bodies."""
    need_core(core)
    return short_core(core)


def short_core(core):
    """The same of what is a core."""
    tables, bodies, singles, main = core
    return (tables, tuple([Short(body).body() for body in bodies]), singles, main)


def better(core):
    """The core with all three done, again and again, until nothing changes."""
    need_core(core)
    return best_core(core)


def best_core(core):
    """The same of what is a core."""
    size = ()
    while size != size_of_core(core):
        size = size_of_core(core)
        core = short_core(Left(Direct(core).core()).core())
    return core


def core_size(core):
    """The number of c's in all bodies, at every depth."""
    need_core(core)
    return sum([len(all_cs(body[2])) for body in core[1]])


def gain(core, steps):
    """The steps of a core and of its better one, if both end with a value; None else."""
    need_core(core)
    need_count(steps, CORE_MOST)
    machines = [Machine(core, steps), Machine(best_core(core), steps)]
    words = [machine.outcome()[0] for machine in machines]
    return (machines[0].steps, machines[1].steps) if words == ["value", "value"] else None
