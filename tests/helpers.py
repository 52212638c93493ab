"""What the tests share: worlds of the examples, odd values, drawn bodies and machines."""

from random import Random

from loopfoundry.machine.machines import Machine
from loopfoundry.memory.meetings import Meetings
from loopfoundry.source.bodies import Body

DOT = Body(
    ("set", "mul", ("op", "mul", ("load", "a", 1, 0), ("load", "b", 1, 0))),
    ("set", "sum", ("op", "add", ("at", "sum", 1), ("at", "mul", 0))),
)
PAIRS = Body(("store", "put", "x", 1, 0, ("op", "f", ("load", "x", 2, -4))))
CHIP_LINES = (
    "unit alu 1",
    "unit mem 1",
    "save 1 mem 0",
    "reload 2 mem 0",
    "pattern add 1 1 alu 0 : add ( _ _ )",
    "pattern mul 2 2 alu 0 : mul ( _ _ )",
    "pattern mulld 3 2 alu 1 mem 0 : mul ( @ _ )",
    "pattern get 2 1 mem 0 : @",
    "pattern f 1 1 alu 0 : f ( _ )",
    "pattern put 1 1 mem 0 : = _",
)
CHIP = Machine.from_lines(*CHIP_LINES)


def nested(kind, depth):
    """A value of so many containers, one in the other."""
    value = 0
    for _ in range(depth):
        value = {"a": value} if kind is dict else kind([value])
    return value


def odd_values():
    """Values of all the kinds for which an error must be raised where they are invalid."""
    numbers = [0, 1, -1, 2, 33, 65, 10**30 - 1, 10**30, 1 - 10**30, -(10**30), 10**40 - 1, -(10**40) + 1]
    texts = ["", "a", "A", "abcdefghi", "a1", "a b", "a\n", "a.0", "a.3", ".", "a.", "a.00", "_", "@", "~" * 300, "\n"]
    tuples = [(), (0,), (0, 1), (True, 1), (None, None), ("at",), ("at", "a"), ("load",), ("op",), ("hole",)]
    tuples += [("set", "a"), ("store", "s"), ((), ()), (([],), {}), (0, 1, 2), ("nearest", 0, 0), ("gap", 0, 0)]
    tuples += [("modulus", 2), ("covered", {}, {}), ("bare", {}), ("within", {}), ("beyond", {}), (DOT,), (1, ())]
    others = [None, True, False, [], [0, 1], {}, {"a": 1}, {0: "a"}, {None: ()}, {(): []}, [[]], {"a": {"b": ["c"]}}]
    objects = [DOT, CHIP, Meetings((1, 0), (1, 0)), [DOT], {"a": CHIP}]
    deep = [nested(kind, 40) for kind in (tuple, list, dict)]
    deep.append(("op", "f", nested(tuple, 38)))
    return numbers + texts + tuples + others + objects + deep


def refused(test, error, call, *args, **more):
    """The error of just this class that a call raises."""
    try:
        call(*args, **more)
    except Exception as e:
        test.assertIs(type(e), error, (call, args, more, e))
        return e
    test.fail(f"no {error.__name__} for {call} with {args} {more}")


def refuses_number(test, value, call, *args, **more):
    """Check that a call raises InvalidNumber with just this value."""
    from loopfoundry.errors import InvalidNumber

    kept = refused(test, InvalidNumber, call, *args, **more).value
    test.assertIs(type(kept), type(value))
    test.assertEqual(kept, value)


def refuses_name(test, wanted, call, *args, **more):
    """Check that a call raises UnknownName with just this value."""
    from loopfoundry.errors import UnknownName

    kept = refused(test, UnknownName, call, *args, **more).wanted
    test.assertIs(type(kept), type(wanted))
    test.assertEqual(kept, wanted)


def is_plain(value):
    return type(value) is int


def fits_digits(value):
    return type(value) is int and abs(value) < 10**30


def ascending(rows):
    rows = list(rows)
    return all(one < other for one, other in zip(rows, rows[1:]))


OPERATORS = {"f": 1, "g": 2, "h": 0, "k": 3}
ARRAYS = ("x", "y")


def draw_tree(random, levels, scalars, spread=4):
    """A tree of at most so many levels; "at"s read the scalars, with any distance."""
    kind = random.choice(("at", "load", "op", "op") if scalars else ("load", "op", "op"))
    if levels == 1 and kind == "op":
        kind = "load"
    if kind == "at":
        return ("at", random.choice(scalars), random.randint(1, 3))
    if kind == "load":
        return ("load", random.choice(ARRAYS), random.randint(-2, 3), random.randint(-spread, spread))
    operator = random.choice(sorted(OPERATORS))
    return ("op", operator, *[draw_tree(random, levels - 1, scalars, spread) for _ in range(OPERATORS[operator])])


def draw_statements(random, most=4, levels=3, spread=4):
    """Some statements that are perhaps a body."""
    names = random.sample(["a", "ab", "b", "c", "sum", "put"], random.randint(1, most))
    kinds = {name: random.choice(("set", "store")) for name in names}
    scalars = [name for name in names if kinds[name] == "set"]
    rows = []
    for name in names:
        tree = draw_tree(random, levels, scalars, spread)
        while kinds[name] == "set" and tree[0] == "at":
            tree = draw_tree(random, levels, scalars, spread)
        if kinds[name] == "set":
            rows.append(("set", name, tree))
        else:
            step = random.choice((-3, -2, -1, 1, 2, 3))
            rows.append(("store", name, random.choice(ARRAYS), step, random.randint(-spread, spread), tree))
    return rows


def lowered(random, rows):
    """The statements with distance 0 in some "at"s that read an earlier statement."""
    done = []

    def change(tree):
        if tree[0] == "at" and tree[1] in done and random.random() < 0.5:
            return ("at", tree[1], 0)
        if tree[0] == "op":
            return (*tree[:2], *[change(below) for below in tree[2:]])
        return tree

    new = []
    for row in rows:
        new.append((*row[:-1], change(row[-1])))
        if row[0] == "set":
            done.append(row[1])
    return new


def draw_body(random, most=4, levels=3, limit=24, spread=4):
    """A body with at most so many working nodes."""
    from loopfoundry.errors import InvalidBody

    while True:
        try:
            body = Body(*lowered(random, draw_statements(random, most, levels, spread)))
        except InvalidBody:
            continue
        if len(body.operations) <= limit:
            return body


def draw_shape(random, room):
    """A shape of at most so many working nodes, and how many it has."""
    if room == 0 or random.random() < 0.4:
        return ("hole",), 0
    if random.random() < 0.35:
        return ("load",), 1
    operator, total = random.choice(sorted(OPERATORS)), 1
    parts = []
    for _ in range(OPERATORS[operator]):
        part, many = draw_shape(random, room - total)
        parts.append(part)
        total += many
    return ("op", operator, *parts), total


def draw_machine(random, patterns=5):
    """A machine whose patterns often fit the drawn bodies."""
    units = {unit: random.randint(1, 3) for unit in random.sample(["u", "v", "w"], random.randint(0, 3))}
    rows = []
    for name in random.sample(["p", "q", "r", "s", "t", "x", "y", "z"], patterns):
        if random.random() < 0.25:
            shape = ("store", draw_shape(random, 2)[0])
        else:
            shape = ("hole",)
            while shape == ("hole",):
                shape = draw_shape(random, 3)[0]
        uses = sorted({(unit, random.randint(0, 3)) for unit in units if random.random() < 0.5})
        rows.append((name, shape, random.randint(1, 4), random.randint(0, 4), tuple(uses)))
    return Machine(units, *rows)


def full_machine(random, patterns=8):
    """A machine that covers each drawn body, with some patterns more."""
    rows = [("l", ("load",), 2, 1, ()), ("m", ("store", ("hole",)), 1, 1, ())]
    for operator, many in sorted(OPERATORS.items()):
        rows.append((operator, ("op", operator, *[("hole",)] * many), 1, random.randint(0, 3), ()))
    extra = draw_machine(random, patterns - len(rows))
    rows += [(*row[:4], ()) for row in extra.patterns]
    random.shuffle(rows)
    return Machine({}, *rows)


def seeded(number):
    return Random(number)
