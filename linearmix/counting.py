"""Numbers that have to be within bounds."""

from linearmix.atoms import is_integer
from linearmix.errors import BadCount

PLAIN_MOST = 5000
CORE_MOST = 100000


def need_count(thing, most):
    """Raises BadCount, if an object is no integer from 0 to a bound."""
    if not is_integer(thing) or not 0 <= thing <= most:
        raise BadCount("the object is no integer within the bounds")
