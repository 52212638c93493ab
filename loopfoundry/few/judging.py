"""What judges trees for few registers, by any hand and of any size.

`limits` is a tuple (registers, cells, most) of the registers, the save cells, and the moves or None.
"""

from loopfoundry.base.numbers import is_between, is_whole
from loopfoundry.few.stays import asks_of, start_of, sure_area, sure_stays, told_gone, with_told
from loopfoundry.files.lives import Lives, count_alive
from loopfoundry.files.turning import is_file_paper


def is_item(points, value):
    """Whether the value is an item."""
    if not isinstance(value, tuple) or not 2 <= len(value) <= 3 or not all([is_plain(part) for part in value]):
        return False
    if len(value) == 2:
        return value[0] == "save" and value[1] in [gap[0] for gap in points.gaps]
    return value[0] in ("gap", "reload") and value[1:] in points.gaps


def is_plain(value):
    """Whether the value is a string or an integer."""
    return isinstance(value, str) or is_whole(value)


def can_be_told(points, told, item):
    """Whether an item can be told beside what is told."""
    if item[0] == "gap":
        return True
    if item[0] == "save":
        return len(told_gone(points, told, item[1])) > 0
    return told.get(("gap", *item[1:]), False)


def is_told(points, value):
    """Whether the value is a dict of items that can be told together."""
    if not isinstance(value, dict):
        return False
    if not all([is_item(points, item) and (worth is True or worth is False) for item, worth in value.items()]):
        return False
    return all([can_be_told(points, value, item) for item in value])


def is_right_tree(points, limits, tree, told):
    """Whether a tree is right by what is told."""
    if not isinstance(tree, tuple) or len(tree) == 0:
        return False
    if tree == ("moves",):
        return limits[2] is not None and moves_told(points, told) > limits[2]
    if len(tree) == 3:
        return is_right_leaf(points, limits, tree, told)
    if len(tree) != 4 or tree[0] != "split" or not is_item(points, tree[1]):
        return False
    item = tree[1]
    if item in told or not can_be_told(points, told, item):
        return False
    if not is_right_tree(points, limits, tree[2], with_told(told, item, False)):
        return False
    return is_right_tree(points, limits, tree[3], with_told(told, item, True))


def moves_told(points, told):
    """How many gaps are told gone, and values that have one."""
    gone = [item for item in told if item[0] == "gap" and told[item]]
    return len(gone) + len(set([item[1] for item in gone]))


def is_right_leaf(points, limits, tree, told):
    """Whether a leaf of three parts is right by what is told."""
    kind, one, other = tree
    is_slot = is_between(other, 0, points.interval - 1)
    if kind == "order":
        return is_plain(one) and is_whole(other) and is_out_of_order(points, told, one, other)
    if kind == "unit":
        return isinstance(one, str) and is_slot and is_overasked(points, told, one, other)
    if kind not in ("alive", "apart") or one not in ("registers", "cells"):
        return False
    rows = sure_stays(points, told) if one == "registers" else sure_area(points, told)
    many = limits[0] if one == "registers" else limits[1]
    if kind == "alive":
        return is_slot and alive_in(rows, points.interval, other) > many
    return is_file_paper(Lives(points.interval, rows), many, ("apart", other))


def alive_in(rows, interval, tick):
    """How many values of some lives are alive in a tick."""
    return sum([count_alive(life, interval, tick) for life in rows.values()])


def is_out_of_order(points, told, key, place):
    """Whether a gap is told gone whose reload, by what is told, starts or writes too early."""
    if not told.get(("gap", key, place), False):
        return False
    is_early = told.get(("reload", key, place), False)
    if is_early and points[key][place] - points[key][place - 1] == 1:
        return True
    writing = start_of(points, ("save", key), told.get(("save", key), False)) + points.save[0]
    return start_of(points, ("reload", key, place), is_early) < writing


def is_overasked(points, told, unit, slot):
    """Whether the told saves and reloads ask for a unit at a slot more often than it is spare."""
    asking = [
        at for item in told if item[0] != "gap" for at in asks_of(points, item, start_of(points, item, told[item]))
        if at == (unit, slot)
    ]
    return len(asking) > points.spare.get((unit, slot), 0)
