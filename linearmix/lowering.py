"""Programs lowered to cores: tables, slots and plain calls (point 33)."""

from linearmix.errors import TooMany
from linearmix.lowtables import Lowering
from linearmix.scripts import let_by_script

TABLES_MOST = 60


def lowered(program):
    """A core that tells the same outcome as the program."""
    lowering = Lowering(let_by_script(program))
    if len(lowering.made) > TABLES_MOST:
        raise TooMany("the program has more objects and parts of news than a core has tables")
    return lowering.core()
