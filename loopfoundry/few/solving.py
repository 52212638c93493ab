"""The search for a relief or a tree.

A *leaf* is found as a pair (tree, used): a tree that is right by what is told, and also by the items
`used` alone. So a tree that does not use what was told last is one for what was told before.
`limits` is a tuple (registers, cells, most).
"""

from loopfoundry.few.judging import alive_in, is_out_of_order, moves_told
from loopfoundry.few.stays import asks_of, start_of, with_told
from loopfoundry.files.circles import parts_of_file
from loopfoundry.files.lives import alive_counts


def search(board, limits, told):
    """All that a relief tells, and None twice; or None, a tree, and what it uses."""
    leaf = leaf_of(board, limits, told)
    if leaf is not None:
        return (None, *leaf)
    everything = with_rest(board, told)
    leaf = leaf_of(board, limits, everything)
    if leaf is None:
        return (everything, None, None)
    item = [part for part in leaf[1] if part not in told][0]
    # What must be told for an item is used where it is split; so leaves need not tell of it.
    trees, used = [], over(told, item)
    for worth in (False, True):
        relief, tree, needs = search(board, limits, with_told(told, item, worth))
        if relief is not None or item not in needs:
            return (relief, tree, needs)
        trees.append(tree)
        used += needs
    return (None, ("split", item, *trees), [part for part in told if part in used])


def with_rest(board, told):
    """What is told, and False for all else that can be told."""
    rest = {}
    for key, place in board.told_points.gaps:
        rest[("gap", key, place)] = False
        if told.get(("gap", key, place), False):
            rest[("save", key)] = False
            rest[("reload", key, place)] = False
    for item in told:
        rest[item] = told[item]
    return rest


def over(told, item):
    """The told items that must be told for an item to be told."""
    if item[0] == "gap":
        return []
    gone = [part for part in told if part[0] == "gap" and part[1] == item[1] and told[part]]
    return gone[:1] if item[0] == "save" else [("gap", *item[1:])]


def leaf_of(board, limits, told):
    """A leaf that is right by what is told, or None."""
    return (
        leaf_of_moves(board, limits, told)
        or leaf_of_order(board, told)
        or leaf_of_units(board, told)
        or leaf_of_registers(board, limits, told)
        or leaf_of_cells(board, limits, told)
    )


def leaf_of_moves(board, limits, told):
    """The leaf of too many moves."""
    most, used = limits[2], {}
    if most is None:
        return None
    for item in [part for part in told if part[0] == "gap" and told[part]]:
        used[item] = True
        if moves_told(board.told_points, used) > most:
            return (("moves",), list(used))
    return None


def leaf_of_order(board, told):
    """The leaf of a reload that comes too early."""
    for key, place in board.told_points.gaps:
        if is_out_of_order(board.told_points, told, key, place):
            late = [item for item in (("save", key), ("reload", key, place)) if told.get(item, False)]
            return (("order", key, place), [("gap", key, place), *late])
    return None


def leaf_of_units(board, told):
    """The leaf of a unit that is asked for too often."""
    points, asking = board.told_points, {}
    for item in [part for part in told if part[0] != "gap"]:
        for at in asks_of(points, item, start_of(points, item, told[item])):
            rows = asking.setdefault(at, [])
            rows.append(item)
            if len(rows) > points.spare.get(at, 0):
                return (("unit", *at), rows)
    return None


def leaf_of_registers(board, limits, told):
    """The leaf of too many values in the registers."""
    counts = board.stay_counts(told)
    top = max(counts)
    # By the sure stays a gap that is not told is gone, and its moves are in time and at once.
    items = [item for item in told if told[item] == (item[0] != "gap")]
    if top > limits[0]:
        slot = counts.index(top)
        return (("alive", "registers", slot), needed_stays(board, told, items, slot, top - limits[0]))
    parts = board.stay_parts(told) if top == limits[0] else []
    if len(parts) < 2:
        return None
    return (("apart", "registers", tuple(sorted(parts[0]))), items)


def needed_stays(board, told, items, slot, above):
    """The items without which no more values than there are registers are sure in a slot."""
    left, needed = {item: told[item] for item in told}, []
    for item in items:
        fewer = {part: left[part] for part in left if part != item}
        loss = board.stays_at(left, item[1])[1][slot] - board.stays_at(fewer, item[1])[1][slot]
        if loss < above:
            left = fewer
            above -= loss
        else:
            needed.append(item)
    return needed


def leaf_of_cells(board, limits, told):
    """The leaf of too many values in the save area."""
    rows = board.area_rows(told)
    counts = alive_counts(list(rows.values()), board.turn)
    top = max(counts)
    # By the sure area a move that is not told is late or early.
    items = [item for item in told if told[item] == (item[0] == "gap")]
    if top > limits[1]:
        slot = counts.index(top)
        return (("alive", "cells", slot), needed_area(board, limits, told, items, slot))
    parts = parts_of_file(rows, board.turn) if top == limits[1] else []
    if len(parts) < 2:
        return None
    return (("apart", "cells", tuple(sorted(parts[0]))), items)


def needed_area(board, limits, told, items, slot):
    """The items without which no more values than there are cells are sure in a slot."""
    left = {item: told[item] for item in items}
    for item in items:
        fewer = {part: left[part] for part in left if part != item}
        if alive_in(board.area_rows(fewer), board.turn, slot) > limits[1]:
            left = fewer
    return list(left)
