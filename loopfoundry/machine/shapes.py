"""Shapes of patterns, where they fit, and their texts."""

from loopfoundry.base.numbers import is_name
from loopfoundry.errors import InvalidArgument, InvalidTree, ParseError
from loopfoundry.source.trees import is_statement, is_tree

MAX_SHAPE = 4
MAX_SHAPES = 3
# Four operators with three shapes each are the longest text: 12 signs of theirs and 9 holes.
MAX_SIGNS = 21


def is_shape(value):
    """Whether the value is a shape, perhaps a store shape."""
    return count_working(value, MAX_SHAPE, True) is not None


def count_working(value, most, is_root):
    """How many working nodes a shape has; None if it is no shape, or has more than `most`."""
    if not isinstance(value, tuple) or len(value) == 0:
        return None
    if value == ("hole",):
        return 0
    if most == 0:
        return None
    if value == ("load",):
        return 1
    if value[0] == "store" and is_root:
        return count_together(value[1:], most) if len(value) == 2 else None
    if value[0] != "op" or not 2 <= len(value) <= 2 + MAX_SHAPES or not is_name(value[1]):
        return None
    return count_together(value[2:], most)


def count_together(shapes, most):
    """How many working nodes one that stands over these shapes has together with them, or None."""
    total = 1
    for shape in shapes:
        many = count_working(shape, most - total, False)
        if many is None:
            return None
        total += many
    return total


def check_shape(value):
    """Raise InvalidArgument unless the value is a shape."""
    if not is_shape(value):
        raise InvalidArgument("no shape")


def is_store(value):
    """Whether the value is a statement that stores."""
    return is_statement(value) and value[0] == "store"


def fits(shape, tree):
    """Whether a shape fits a tree, or a statement that stores."""
    check_shape(shape)
    if not is_tree(tree) and not is_store(tree):
        raise InvalidTree("no tree")
    return does_fit(shape, tree)


def does_fit(shape, node):
    """Whether a shape fits a node, which is a tree or a whole store."""
    if shape[0] == "store" or node[0] == "store":
        return shape[0] == node[0] and does_fit(shape[1], node[5])
    if shape[0] == "hole":
        return True
    if shape[0] == "load" or node[0] != "op":
        return shape[0] == node[0]
    if shape[1] != node[1] or len(shape) != len(node):
        return False
    return all([does_fit(part, below) for part, below in zip(shape[2:], node[2:])])


def walked_shape(shape, path):
    """The paths and the shapes of all parts of a shape that stands at a path, from left to right."""
    rows = [(path, shape)]
    parts = shape[1:] if shape[0] == "store" else shape[2:]
    for index, part in enumerate(parts):
        rows.extend(walked_shape(part, path + (index,)))
    return rows


def paths_of(shape, kind):
    """The ascending paths of the parts of a shape that are of this kind."""
    return tuple([path for path, part in walked_shape(shape, ()) if part[0] == kind])


def holes(shape):
    """The ascending paths of the holes of a shape."""
    check_shape(shape)
    return paths_of(shape, "hole")


def loads(shape):
    """The ascending paths of the loads of a shape."""
    check_shape(shape)
    return paths_of(shape, "load")


def write_shape(shape):
    """The text of a shape."""
    check_shape(shape)
    return " ".join(signs_of(shape))


def signs_of(shape):
    """The signs of the text of a shape."""
    if shape[0] == "hole":
        return ["_"]
    if shape[0] == "load":
        return ["@"]
    if shape[0] == "store":
        return ["=", *signs_of(shape[1])]
    signs = [shape[1], "("]
    for part in shape[2:]:
        signs.extend(signs_of(part))
    return [*signs, ")"]


def read_shape(text):
    """The shape of a text."""
    shape = shape_of(text.split(" ")) if isinstance(text, str) else None
    if shape is None:
        raise ParseError(None)
    return shape


def shape_of(signs):
    """The shape whose text has these signs, or None."""
    if len(signs) > MAX_SIGNS:
        return None
    is_stored = signs[:1] == ["="]
    shape, behind = read_part(signs, 1 if is_stored else 0)
    if shape is None or behind != len(signs):
        return None
    whole = ("store", shape) if is_stored else shape
    return whole if is_shape(whole) else None


def read_part(signs, at):
    """The shape that begins with the sign at this index, or None, and the index behind it."""
    sign = signs[at] if at < len(signs) else ""
    if sign == "_" or sign == "@":
        return (("hole",) if sign == "_" else ("load",), at + 1)
    if not is_name(sign) or signs[at + 1:at + 2] != ["("]:
        return (None, at)
    parts = ["op", sign]
    at += 2
    while at < len(signs) and signs[at] != ")":
        part, at = read_part(signs, at)
        if part is None:
            return (None, at)
        parts.append(part)
    return (tuple(parts), at + 1) if at < len(signs) else (None, at)
