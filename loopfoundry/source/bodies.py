"""Bodies of loops: rows of statements, and their runs."""

from loopfoundry.base.numbers import check_integer, check_known, check_number, is_name
from loopfoundry.errors import InvalidArgument, InvalidBody, InvalidNumber, InvalidTree, UnknownName
from loopfoundry.memory.meetings import Meetings
from loopfoundry.source.trees import is_statement, text_at, walked_statement, with_leaves

MAX_NODES = 24
MAX_ROUNDS = 64


def is_body(statements):
    """Whether the statements are a body in this order."""
    if len(statements) == 0 or not all([is_statement(statement) for statement in statements]):
        return False
    if len(set([statement[1] for statement in statements])) != len(statements):
        return False
    if len(working_nodes(statements)) > MAX_NODES:
        return False
    return has_good_reads(statements) and has_apart_stores(statements)


def working_nodes(statements):
    """A dict from the operation of each working node to its tree, or its whole store."""
    found = {}
    for statement in statements:
        for path, node in walked_statement(statement):
            if node[0] != "at":
                found[text_at(statement[1], path)] = node
    return {text: found[text] for text in sorted(found)}


def has_good_reads(statements):
    """Whether each "at" reads a "set" statement, with the distance 0 an earlier one."""
    places = {statement[1]: place for place, statement in enumerate(statements) if statement[0] == "set"}
    for place, statement in enumerate(statements):
        for _, node in walked_statement(statement):
            if node[0] == "at" and node[1] not in places:
                return False
            if node[0] == "at" and node[2] == 0 and places[node[1]] >= place:
                return False
    return True


def has_apart_stores(statements):
    """Whether no two stores of one array ever meet."""
    stores = [statement for statement in statements if statement[0] == "store"]
    for place, store in enumerate(stores):
        for other in stores[:place]:
            if store[2] == other[2] and do_meet(store[3:5], other[3:5]):
                return False
    return True


def do_meet(place, other):
    """Whether two places meet in any rounds, whichever is the earlier one."""
    return bool(Meetings(place, other)) or bool(Meetings(other, place))


def reads_of(statements):
    """The ascending triples of a reader, what it reads, and the distance."""
    rows = []
    for statement in statements:
        for _, node in walked_statement(statement):
            if node[0] == "at":
                rows.append((statement[1], node[1], node[2]))
    return tuple(sorted(set(rows)))


def is_names(value):
    """Whether the value is a dict from names to names."""
    if not isinstance(value, dict):
        return False
    return all([is_name(name) and is_name(new) for name, new in value.items()])


def check_renaming(names, old):
    """Raise InvalidArgument if two of the old names become one."""
    if len(set([names.get(name, name) for name in old])) != len(old):
        raise InvalidArgument("two names become one")


def with_changed_leaves(statement, change):
    """The statement with `change(leaf)` in the place of each "at" and load of its tree."""
    return statement[:-1] + (with_leaves(statement[-1], change),)


def renamed_leaf(leaf, names, arrays):
    """An "at" or a load with other names."""
    table = names if leaf[0] == "at" else arrays
    return (leaf[0], table.get(leaf[1], leaf[1]), *leaf[2:])


def renamed_statement(statement, names, arrays):
    """The statement with other names."""
    kind, name, *rest = with_changed_leaves(statement, lambda leaf: renamed_leaf(leaf, names, arrays))
    if kind == "store":
        rest[0] = arrays.get(rest[0], rest[0])
    return (kind, names.get(name, name), *rest)


def moved_place(place, times, plus):
    """A place with its step and offset multiplied, and then an offset that is greater."""
    return (place[0] * times, place[1] * times + plus)


def moved_leaf(leaf, array, times, plus):
    """A load with its place moved, if it is of the array; any other leaf as it is."""
    if leaf[0] != "load" or leaf[1] != array:
        return leaf
    return (*leaf[:2], *moved_place(leaf[2:], times, plus))


def moved_statement(statement, array, times, plus):
    """The statement with all places of the array moved."""
    moved = with_changed_leaves(statement, lambda leaf: moved_leaf(leaf, array, times, plus))
    if moved[0] != "store" or moved[2] != array:
        return moved
    return (*moved[:3], *moved_place(moved[3:5], times, plus), moved[5])


def value_of(tree, number, told, done):
    """The value of a tree in a round: `told` are the functions of the run, `done` its values and cells."""
    meaning, first, contents = told
    values, cells = done
    if tree[0] == "at":
        since = number - tree[2]
        return values[tree[1]][since] if since >= 0 else first(tree[1], since)
    if tree[0] == "load":
        at = (tree[1], tree[2] * number + tree[3])
        return cells[at] if at in cells else contents(at[0], at[1])
    return meaning(tree[1], tuple([value_of(below, number, told, done) for below in tree[2:]]))


def do_round(statements, number, told, done):
    """Do one round of a run: add its values and cells to those that are done."""
    values, cells = done
    for statement in statements:
        value = value_of(statement[-1], number, told, done)
        if statement[0] == "set":
            values[statement[1]].append(value)
        else:
            cells[(statement[2], statement[3] * number + statement[4])] = value


class Body:
    """A row of statements that each round of a loop does."""

    def __init__(self, *statements):
        if not is_body(statements):
            raise InvalidBody("no body")
        self._statements = statements
        self._rows = {statement[1]: statement for statement in statements}
        self._names = tuple(self._rows)
        self._working = working_nodes(statements)
        self._operations = tuple(self._working)
        leaves = list(self._working.items())
        self._loads = tuple([(text, *node[1:]) for text, node in leaves if node[0] == "load"])
        self._stores = tuple([node[1:5] for _, node in leaves if node[0] == "store"])
        self._scalars = tuple(sorted([row[1] for row in statements if row[0] == "set"]))
        self._arrays = tuple(sorted(set([row[1] for row in self._loads + self._stores])))
        self._reads = reads_of(statements)

    @classmethod
    def of(cls, statements):
        """The body of a tuple of statements."""
        if not isinstance(statements, tuple):
            raise InvalidBody("no tuple")
        return cls(*statements)

    @property
    def statements(self):
        return self._statements

    @property
    def names(self):
        """The names of the statements, in their order."""
        return self._names

    @property
    def scalars(self):
        """The ascending names of the statements that set."""
        return self._scalars

    @property
    def arrays(self):
        """The ascending names of all arrays."""
        return self._arrays

    @property
    def operations(self):
        """The ascending operations of all working nodes."""
        return self._operations

    @property
    def loads(self):
        """The ascending (operation, array, step, offset) of all loads."""
        return self._loads

    @property
    def stores(self):
        """The ascending (name, array, step, offset) of all stores."""
        return self._stores

    @property
    def reads(self):
        """The ascending (reader, name, distance) of all that is read."""
        return self._reads

    def __getitem__(self, at):
        if not is_name(at) or at not in self._rows:
            raise UnknownName(at)
        return self._rows[at]

    def __contains__(self, x):
        return is_name(x) and x in self._rows

    def __len__(self):
        return len(self._statements)

    def __iter__(self):
        return iter(self._names)

    def __eq__(self, other):
        return isinstance(other, Body) and self._statements == other._statements

    def __str__(self):
        return f"body of {len(self._statements)} statements, {len(self._operations)} nodes"

    def tree(self, operation):
        """What stands at an operation: a tree, or a whole store."""
        if not isinstance(operation, str) or operation not in self._working:
            raise InvalidArgument("no operation of the body")
        return self._working[operation]

    def with_statement(self, statement, *, at=None):
        """The body with a further statement, at an index or at the end."""
        if not is_statement(statement):
            raise InvalidTree("no statement")
        if at is None:
            return Body(*self._statements, statement)
        check_number(at, 0, len(self._statements))
        rows = list(self._statements)
        rows.insert(at, statement)
        return Body(*rows)

    def replaced(self, statement):
        """The body with a statement in the place of the one with its name."""
        if not is_statement(statement):
            raise InvalidTree("no statement")
        check_known(statement[1], self._names)
        rows = [statement if row[1] == statement[1] else row for row in self._statements]
        return Body(*rows)

    def without(self, *names):
        """The body without these statements."""
        for name in names:
            check_known(name, self._names)
        rows = [row for row in self._statements if row[1] not in names]
        return Body(*rows)

    def renamed(self, names, *, arrays=None):
        """The body with other names of statements and of arrays."""
        new_arrays = {} if arrays is None else arrays
        if not is_names(names) or not is_names(new_arrays):
            raise InvalidArgument("no dict from names to names")
        for name in sorted(names):
            check_known(name, self._names)
        for array in sorted(new_arrays):
            check_known(array, self._arrays)
        check_renaming(names, self._names)
        check_renaming(new_arrays, self._arrays)
        rows = [renamed_statement(row, names, new_arrays) for row in self._statements]
        return Body(*rows)

    def shifted(self, array, by):
        """The body with offsets of all places of an array that are so much greater."""
        check_known(array, self._arrays)
        check_integer(by)
        return self._moved(array, 1, by)

    def scaled(self, array, by):
        """The body with all steps and offsets of an array multiplied."""
        check_known(array, self._arrays)
        check_integer(by)
        if by == 0:
            raise InvalidNumber(by)
        return self._moved(array, by, 0)

    def run(self, rounds, meaning, first, contents):
        """The values of the scalars, and the stored cells, of a run of so many rounds."""
        check_number(rounds, 0, MAX_ROUNDS)
        values = {name: [] for name in self._scalars}
        cells = {}
        for number in range(rounds):
            do_round(self._statements, number, (meaning, first, contents), (values, cells))
        scalars = {name: tuple(values[name]) for name in self._scalars}
        return (scalars, {at: cells[at] for at in sorted(cells)})

    def _moved(self, array, times, plus):
        """The body with all places of an array moved, if no integer gets too long."""
        for row in self._loads + self._stores:
            if row[1] == array:
                for part in moved_place(row[2:], times, plus):
                    check_integer(part)
        rows = [moved_statement(row, array, times, plus) for row in self._statements]
        return Body(*rows)
