"""Reliefs: which gaps are gone, so that few registers are enough; and trees that show that none is."""

from loopfoundry.base.numbers import check_number, is_between
from loopfoundry.errors import InvalidArgument, TooMany
from loopfoundry.few.boards import Board
from loopfoundry.few.judging import is_right_tree, is_told
from loopfoundry.few.moves import Moves, check_points, is_moves
from loopfoundry.few.solving import search
from loopfoundry.few.stays import start_of, sure_area, sure_stays
from loopfoundry.files.lives import Lives
from loopfoundry.files.turning import MAX_FILE, file_paper, is_bases, least_registers

MAX_GAPS = 6


def check_most_moves(most):
    """Raise InvalidNumber unless this is a greatest number of moves, or None."""
    if most is not None:
        check_number(most, 0, None)


def check_limits(points, registers, cells, most):
    """Raise an error unless these are points, and numbers of registers, save cells and moves."""
    check_points(points)
    check_number(registers, 1, MAX_FILE)
    check_number(cells, 0, MAX_FILE)
    check_most_moves(most)


def check_gaps(points):
    """Raise TooMany if too many gaps can be gone for a search."""
    if len(points.gaps) > MAX_GAPS:
        raise TooMany(MAX_GAPS)


def relief_paper(points, registers, *, cells=24, most=None):
    """A relief for so many registers, save cells and moves, or a tree that shows that there is none."""
    check_limits(points, registers, cells, most)
    check_gaps(points)
    told, tree, _ = search(Board(points), (registers, cells, most), {})
    return ("tree", tree) if told is None else relief_of(points, registers, told)


def moves_of(points, told):
    """The moves by what is told of all items that can be told."""
    starts = {item: start_of(points, item, told[item]) for item in told if item[0] != "gap"}
    saves = {item[1]: starts[item] for item in starts if item[0] == "save"}
    return Moves(points, saves, {item[1:]: starts[item] for item in starts if item[0] == "reload"})


def relief_of(points, registers, told):
    """The relief by what is told of all items that can be told."""
    moves = moves_of(points, told)
    stays, area = Lives(points.interval, moves.stays), Lives(points.interval, moves.area)
    cells = least_registers(area)
    bases, places = file_paper(stays, registers)[1], file_paper(area, cells)[1]
    return ("relief", moves.saves, moves.reloads, bases, cells, places)


def is_relief_paper(points, registers, value, *, cells=24, most=None):
    """Whether the value is such a paper."""
    check_limits(points, registers, cells, most)
    if not isinstance(value, tuple) or len(value) < 2:
        return False
    if value[0] == "tree":
        return len(value) == 2 and is_right_tree(points, (registers, cells, most), value[1], {})
    return is_relief(points, (registers, cells, most), value)


def is_relief(points, limits, value):
    """Whether the value is a relief."""
    if not isinstance(value, tuple) or len(value) != 6 or value[0] != "relief":
        return False
    _, saves, reloads, bases, cells, places = value
    if not is_moves(points, saves, reloads) or not is_between(cells, 1 if saves else 0, limits[1] if saves else 0):
        return False
    moves = Moves(points, saves, reloads)
    if not moves.fits or (limits[2] is not None and len(moves) > limits[2]):
        return False
    if not is_bases(Lives(points.interval, moves.stays), limits[0], bases):
        return False
    return is_bases(Lives(points.interval, moves.area), cells, places)


def least_found(points, registers, cells):
    """What a relief with the fewest moves tells, or None, and a tree that shows that there is none with fewer."""
    board = Board(points)
    best, most, tree = None, None, None
    while tree is None and most != -1:
        told, tree, _ = search(board, (registers, cells, most), {})
        if told is not None:
            best, most = told, len(moves_of(points, told)) - 1
    return (best, tree)


def least_moves(points, registers, *, cells=24):
    """The least number of moves of a relief, or None."""
    check_limits(points, registers, cells, None)
    check_gaps(points)
    told, _ = least_found(points, registers, cells)
    return None if told is None else len(moves_of(points, told))


def fewest_registers(points, *, cells=24, most=None):
    """The least number of registers for which there is a relief, or None."""
    check_points(points)
    check_number(cells, 0, MAX_FILE)
    check_most_moves(most)
    check_gaps(points)
    board = Board(points)
    for registers in range(max(1, max(board.stay_counts({}))), MAX_FILE + 1):
        if search(board, (registers, cells, most), {})[0] is not None:
            return registers
    return None


def least_paper(points, registers, *, cells=24):
    """A relief with the fewest moves and a tree for one move less, or a tree for no bound."""
    check_limits(points, registers, cells, None)
    check_gaps(points)
    told, tree = least_found(points, registers, cells)
    return ("none", tree) if told is None else ("least", relief_of(points, registers, told), tree)


def is_least_paper(points, registers, value, *, cells=24):
    """Whether the value is such a paper."""
    check_limits(points, registers, cells, None)
    if not isinstance(value, tuple) or len(value) < 2:
        return False
    if value[0] == "none":
        return len(value) == 2 and is_right_tree(points, (registers, cells, None), value[1], {})
    if value[0] != "least" or len(value) != 3 or not is_relief(points, (registers, cells, None), value[1]):
        return False
    moves = len(value[1][1]) + len(value[1][2])
    if moves == 0:
        return value[2] is None
    return is_right_tree(points, (registers, cells, moves - 1), value[2], {})


def sure_lives(points, told):
    """The dicts of the sure stays and of the sure area by what is told."""
    check_points(points)
    if not is_told(points, told):
        raise InvalidArgument("what cannot be told together")
    return (sure_stays(points, told), sure_area(points, told))
