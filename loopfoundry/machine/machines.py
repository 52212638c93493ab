"""Machines: units, patterns, and the tables of saves and reloads."""

from loopfoundry.base.numbers import MAX_TICKS, check_known, check_number, is_between, is_name
from loopfoundry.errors import InvalidArgument, InvalidMachine, ParseError
from loopfoundry.machine.shapes import is_shape, shape_of, write_shape

MAX_PATTERNS = 8
MAX_UNITS = 4
MAX_COST = 20
MAX_COPIES = 3
MAX_OFFSET = 3
NO_MOVE = (1, ())
MOVES = ("save", "reload")


def is_use(value):
    """Whether the value is a pair of a unit and an offset."""
    return isinstance(value, tuple) and len(value) == 2 and is_name(value[0]) and is_between(value[1], 0, MAX_OFFSET)


def is_uses(value):
    """Whether the value is an ascending tuple of uses."""
    if not isinstance(value, tuple) or not all([is_use(use) for use in value]):
        return False
    return all([one < other for one, other in zip(value, value[1:])])


def is_move(value):
    """Whether the value is a pair of ticks and uses."""
    return isinstance(value, tuple) and len(value) == 2 and is_between(value[0], 1, MAX_TICKS) and is_uses(value[1])


def is_pattern(value):
    """Whether the value is a pattern, with units of any names."""
    if not isinstance(value, tuple) or len(value) != 5 or not is_name(value[0]):
        return False
    _, shape, ticks, cost, uses = value
    if not is_shape(shape) or shape == ("hole",) or not is_between(cost, 0, MAX_COST):
        return False
    return is_move((ticks, uses))


def is_units(value):
    """Whether the value is a dict from names to how many of a unit there are."""
    if not isinstance(value, dict) or len(value) > MAX_UNITS:
        return False
    return all([is_name(unit) and is_between(many, 1, MAX_COPIES) for unit, many in value.items()])


def is_machine(units, patterns, moves):
    """Whether there is a machine with these units, patterns and moves."""
    if not is_units(units) or len(patterns) > MAX_PATTERNS:
        return False
    if not all([is_pattern(pattern) for pattern in patterns]) or not all([is_move(move) for move in moves]):
        return False
    if len(set([pattern[0] for pattern in patterns])) != len(patterns):
        return False
    rows = [pattern[4] for pattern in patterns] + [move[1] for move in moves]
    return all([unit in units for uses in rows for unit, _ in uses])


def text_of_uses(uses):
    """The text of uses, with a blank ahead of each word."""
    return "".join([f" {unit} {offset}" for unit, offset in uses])


def line_of_move(kind, move):
    """The line of the table of saves, or of that of reloads."""
    return f"{kind} {move[0]}{text_of_uses(move[1])}"


def line_of_pattern(pattern):
    """The line of a pattern."""
    name, shape, ticks, cost, uses = pattern
    return f"pattern {name} {ticks} {cost}{text_of_uses(uses)} : {write_shape(shape)}"


def read_number(word, most):
    """The integer from 0 to `most` with this text, or None."""
    for number in range(most + 1):
        if word == str(number):
            return number
    return None


def read_uses(words):
    """The uses with these words; not always ones that a pattern can have."""
    pairs = [words[at:at + 2] for at in range(0, len(words), 2)]
    return tuple([(pair[0], read_number(pair[-1], MAX_OFFSET)) for pair in pairs])


def read_line(line):
    """The kind of a line, and what it tells: a unit, a move or a pattern. None if it is no line."""
    if not isinstance(line, str):
        return None
    kind, *words = line.split(" ")
    if kind == "unit" and len(words) == 2:
        many = read_number(words[1], MAX_COPIES)
        return (kind, (words[0], many)) if is_units({words[0]: many}) else None
    if kind in MOVES and words:
        move = (read_number(words[0], MAX_TICKS), read_uses(words[1:]))
        return (kind, move) if is_move(move) else None
    if kind == "pattern" and ":" in words[3:]:
        pattern = read_pattern(words, words.index(":"))
        return (kind, pattern) if is_pattern(pattern) else None
    return None


def read_pattern(words, colon):
    """The pattern with these words, not always one that can be; `colon` is the index of the colon."""
    ticks, cost = read_number(words[1], MAX_TICKS), read_number(words[2], MAX_COST)
    return (words[0], shape_of(words[colon + 1:]), ticks, cost, read_uses(words[3:colon]))


class Machine:
    """Units, patterns, and the tables of saves and reloads."""

    def __init__(self, units, *patterns, save=(1, ()), reload=(1, ())):
        if not is_machine(units, patterns, (save, reload)):
            raise InvalidMachine("no machine")
        self._units = {unit: units[unit] for unit in sorted(units)}
        self._patterns = patterns
        self._names = tuple([pattern[0] for pattern in patterns])
        self._save = save
        self._reload = reload
        unit_lines = [f"unit {unit} {many}" for unit, many in self._units.items()]
        move_lines = [line_of_move("save", save), line_of_move("reload", reload)]
        self._lines = tuple(unit_lines + move_lines + [line_of_pattern(pattern) for pattern in patterns])

    @classmethod
    def of(cls, units, patterns, *, save=(1, ()), reload=(1, ())):
        """The machine with the patterns of a tuple."""
        if not isinstance(patterns, tuple):
            raise InvalidMachine("no tuple")
        return cls(units, *patterns, save=save, reload=reload)

    @classmethod
    def from_lines(cls, *lines):
        """The machine of some lines."""
        return cls.of_lines(lines)

    @classmethod
    def of_lines(cls, lines):
        """The machine of the lines of a tuple."""
        if not isinstance(lines, tuple):
            raise ParseError(None)
        units, moves, patterns = {}, {}, []
        for index, line in enumerate(lines):
            kind, told = read_line(line) or (None, None)
            if kind is None or kind in moves or (kind == "unit" and told[0] in units):
                raise ParseError(index)
            if kind == "unit":
                units[told[0]] = told[1]
            elif kind == "pattern":
                patterns.append(told)
            else:
                moves[kind] = told
        return cls.of(
            units, tuple(patterns), save=moves.get("save", NO_MOVE), reload=moves.get("reload", NO_MOVE)
        )

    @property
    def units(self):
        return dict(self._units)

    @property
    def patterns(self):
        return self._patterns

    @property
    def names(self):
        """The names of the patterns, in their order."""
        return self._names

    @property
    def save(self):
        return self._save

    @property
    def reload(self):
        return self._reload

    @property
    def lines(self):
        """The lines of the units, of saving and reloading, and of the patterns."""
        return self._lines

    def __contains__(self, x):
        return x in self._names

    def __len__(self):
        return len(self._patterns)

    def __iter__(self):
        return iter(self._patterns)

    def __eq__(self, other):
        return (
            isinstance(other, Machine)
            and self._units == other._units
            and self._patterns == other._patterns
            and self._save == other._save
            and self._reload == other._reload
        )

    def __str__(self):
        return f"machine of {len(self._patterns)} patterns, {len(self._units)} units"

    def pattern(self, name):
        """The pattern with this name."""
        return self._patterns[self.index_of(name)]

    def index_of(self, name):
        """The index of the pattern with this name."""
        check_known(name, self._names)
        return self._names.index(name)

    def copies(self, unit):
        """How many of a unit there are."""
        check_known(unit, tuple(self._units))
        return self._units[unit]

    def with_pattern(self, pattern, *, at=None):
        """The machine with a further pattern, at an index or behind all others."""
        if not is_pattern(pattern):
            raise InvalidArgument("no pattern")
        if at is not None:
            check_number(at, 0, len(self._patterns))
        rows = list(self._patterns)
        rows.insert(len(rows) if at is None else at, pattern)
        return self._with(rows)

    def without_pattern(self, name):
        """The machine without a pattern."""
        check_known(name, self._names)
        return self._with([row for row in self._patterns if row[0] != name])

    def moved(self, name, at):
        """The machine with a pattern moved to an index."""
        pattern = self.pattern(name)
        check_number(at, 0, len(self._patterns) - 1)
        rows = [row for row in self._patterns if row[0] != name]
        rows.insert(at, pattern)
        return self._with(rows)

    def with_cost(self, name, cost):
        """The machine with another cost of a pattern."""
        check_known(name, self._names)
        check_number(cost, 0, MAX_COST)
        return self._with([(*row[:3], cost, row[4]) if row[0] == name else row for row in self._patterns])

    def with_units(self, units):
        """The machine with other units."""
        return Machine(units, *self._patterns, save=self._save, reload=self._reload)

    def with_moves(self, *, save=None, reload=None):
        """The machine with other tables of saves or reloads; None stands for the same one."""
        new_save = self._save if save is None else save
        new_reload = self._reload if reload is None else reload
        return Machine(self._units, *self._patterns, save=new_save, reload=new_reload)

    def renamed(self, names):
        """The machine with other names of all its patterns."""
        if not isinstance(names, dict) or sorted_names(list(names)) != sorted_names(list(self._names)):
            raise InvalidArgument("no dict from the names of the patterns")
        new = [names[name] for name in self._names]
        if sorted_names(new) is None or len(set(new)) != len(new):
            raise InvalidArgument("no different names")
        return self._with([(names[row[0]], *row[1:]) for row in self._patterns])

    def _with(self, rows):
        """The machine with other patterns."""
        return Machine(self._units, *rows, save=self._save, reload=self._reload)


def sorted_names(rows):
    """The names, ascending; None if one is no name."""
    return sorted(rows) if all([is_name(name) for name in rows]) else None
