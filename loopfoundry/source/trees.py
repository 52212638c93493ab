"""Trees and statements by themselves, and the texts of their operations."""

from loopfoundry.base.numbers import is_between, is_integer, is_name
from loopfoundry.errors import InvalidArgument, InvalidTree

MAX_LEVELS = 4
MAX_TREES = 3
MAX_DISTANCE = 3
INDICES = ("0", "1", "2")


def is_tree(value):
    """Whether the value is a tree."""
    return is_tree_within(value, MAX_LEVELS)


def is_tree_within(value, room):
    """Whether the value is a tree of at most so many levels."""
    if room == 0 or not isinstance(value, tuple) or len(value) < 2 or not is_name(value[1]):
        return False
    if value[0] == "at":
        return len(value) == 3 and is_between(value[2], 0, MAX_DISTANCE)
    if value[0] == "load":
        return len(value) == 4 and is_integer(value[2]) and is_integer(value[3])
    if value[0] != "op" or len(value) > 2 + MAX_TREES:
        return False
    return all([is_tree_within(below, room - 1) for below in value[2:]])


def is_statement(value):
    """Whether the value is a statement by itself, whether or not a body can have it."""
    if not isinstance(value, tuple) or len(value) < 3 or not is_name(value[1]):
        return False
    if value[0] == "set":
        return len(value) == 3 and is_tree(value[2]) and value[2][0] != "at"
    if value[0] != "store" or len(value) != 6 or not is_name(value[2]):
        return False
    return is_integer(value[3]) and value[3] != 0 and is_integer(value[4]) and is_tree(value[5])


def check_tree(value):
    """Raise InvalidTree unless the value is a tree."""
    if not is_tree(value):
        raise InvalidTree("no tree")


def levels(tree):
    """The number of the levels of a tree."""
    check_tree(tree)
    return 1 + max([len(path) for path, _ in walked(tree, ())])


def nodes(tree):
    """The number of the working nodes of a tree."""
    check_tree(tree)
    return len([path for path, node in walked(tree, ()) if node[0] != "at"])


def walked(tree, path):
    """All paths and trees of a tree that stands at a path, each one ahead of those below it."""
    rows = [(path, tree)]
    if tree[0] == "op":
        for index, below in enumerate(tree[2:]):
            rows.extend(walked(below, path + (index,)))
    return rows


def walked_statement(statement):
    """All paths and nodes of a statement, each one ahead of those below it."""
    if statement[0] == "store":
        return [((), statement)] + walked(statement[5], (0,))
    return walked(statement[2], ())


def with_leaves(tree, change):
    """The tree with `change(leaf)` in the place of each "at" and load."""
    if tree[0] == "op":
        return tree[:2] + tuple([with_leaves(below, change) for below in tree[2:]])
    return change(tree)


def is_path(value):
    """Whether the value is a path: a tuple of at most four indices from 0 to 2."""
    if not isinstance(value, tuple) or len(value) > MAX_LEVELS:
        return False
    return all([is_between(index, 0, MAX_TREES - 1) for index in value])


def is_operation(value):
    """Whether the value is a text with the form of an operation."""
    if not isinstance(value, str):
        return False
    name, *indices = value.split(".")
    return is_name(name) and len(indices) <= MAX_LEVELS and all([index in INDICES for index in indices])


def text_at(name, path):
    """The text of the node at a path of the statement of this name."""
    return ".".join([name, *[str(index) for index in path]])


def operation_at(name, path):
    """The operation of a path in the statement of this name."""
    if not is_name(name) or not is_path(path):
        raise InvalidArgument("no name or no path")
    return text_at(name, path)


def path_of(operation):
    """The pair of the name and the path of an operation."""
    if not is_operation(operation):
        raise InvalidArgument("no operation")
    name, *indices = operation.split(".")
    return (name, tuple([int(index) for index in indices]))
