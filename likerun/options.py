"""The checks of the options of a run."""

from likerun.errors import BadOption
from likerun.letters import is_source
from likerun.sizes import TEXT_LIMIT, is_small

ROOM_LIMIT = 1000000000
FUEL_LIMIT = 100000
DEPTH_LIMIT = 40


def check_options(inputs, room, fuel, depth):
    """Refuse the first option that is out of its range."""
    if not isinstance(inputs, (list, tuple)) or not all([is_input(item) for item in inputs]):
        raise BadOption("inputs")
    if not is_between(room, 0, ROOM_LIMIT):
        raise BadOption("room")
    if not is_between(fuel, 0, FUEL_LIMIT):
        raise BadOption("fuel")
    if not is_between(depth, 1, DEPTH_LIMIT):
        raise BadOption("depth")


def check_schedule(schedule):
    """Refuse a schedule of collections that has other entries than 0, 1 and 2."""
    if not isinstance(schedule, (list, tuple)) or not all([is_between(item, 0, 2) for item in schedule]):
        raise BadOption("schedule")


def is_integer(value):
    """Tell whether a value is an integer, and no truth."""
    return isinstance(value, int) and not isinstance(value, bool)


def is_between(value, least, greatest):
    """Tell whether a value is an integer in a range."""
    return is_integer(value) and least <= value <= greatest


def is_input(item):
    """Tell whether an item may be an input of a run."""
    if isinstance(item, str):
        return len(item) <= TEXT_LIMIT and is_source(item)
    return is_integer(item) and is_small(item)
