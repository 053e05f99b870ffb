"""Values of all kinds, for what must refuse or take any value."""

from treadplans.cloths import Cloth
from treadplans.desk import Desk
from treadplans.drafts import Draft
from treadplans.errors import BadPlan
from treadplans.looms import Loom
from treadplans.plans import Plan


def nested(depth):
    """A list and a tuple within each other, so deep."""
    value = []
    for level in range(depth):
        value = [value] if level % 2 else (value,)
    return value


PLAIN = (
    'pick p white\npick q white\nend a blue #.\nend b blue .#\n'
    'threading ( a b ) +\ntreadling ( p q ) + | p'
)

LOOM = Loom(Draft(PLAIN), ('a', 'b'))
LOOM.weave('p')

VALUES = [
    0, 1, -1, 999999999, True, False, None, '', 'a', 'a b', 'blue\n', (), ('a',), ('a', 1), (('a',), ['b']),
    [], ['a'], [[1], {}], {}, {'a': 1}, {1: [2]}, nested(20), Plan('a'), Draft(PLAIN),
    Cloth(Draft(PLAIN), ('a', 'b'), ('p',)), Loom(Draft(PLAIN), ('a', 'b')), LOOM, Desk(LOOM), BadPlan('a'),
    (LOOM, [LOOM]),
]

NO_STRINGS = [value for value in VALUES if not isinstance(value, str)]
NO_INTEGERS = [value for value in VALUES if not isinstance(value, int) or isinstance(value, bool)]


def refused(error, call, *args, **named):
    """The value of just this error, which the call must raise."""
    try:
        call(*args, **named)
    except ValueError as caught:
        assert caught.__class__ is error, (caught.__class__, error)
        return caught.value
    raise AssertionError(f'{error.__name__} is not raised for {args!r}{named!r}')
