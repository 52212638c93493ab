"""What the tests share: worlds of the examples, odd values, drawn bodies and machines."""

from random import Random

from loopfoundry.code.kernels import Kernel
from loopfoundry.few.moves import Moves
from loopfoundry.few.points import Points
from loopfoundry.files.lives import Lives
from loopfoundry.jobs.jobs import Job
from loopfoundry.machine.machines import Machine
from loopfoundry.memory.meetings import Meetings
from loopfoundry.source.bodies import Body

DOT = Body(
    ("set", "mul", ("op", "mul", ("load", "a", 1, 0), ("load", "b", 1, 0))),
    ("set", "sum", ("op", "add", ("at", "sum", 1), ("at", "mul", 0))),
)
PAIRS = Body(("store", "put", "x", 1, 0, ("op", "f", ("load", "x", 2, -4))))
CHIP_LINES = (
    "unit alu 1",
    "unit mem 1",
    "save 1 mem 0",
    "reload 2 mem 0",
    "pattern add 1 1 alu 0 : add ( _ _ )",
    "pattern mul 2 2 alu 0 : mul ( _ _ )",
    "pattern mulld 3 2 alu 1 mem 0 : mul ( @ _ )",
    "pattern get 2 1 mem 0 : @",
    "pattern f 1 1 alu 0 : f ( _ )",
    "pattern put 1 1 mem 0 : = _",
)
CHIP = Machine.from_lines(*CHIP_LINES)
HOLD = Body(("set", "a", ("op", "h")))
KEEP = Machine.from_lines("pattern h 1 1 : h ( )")


def nested(kind, depth):
    """A value of so many containers, one in the other."""
    value = 0
    for _ in range(depth):
        value = {"a": value} if kind is dict else kind([value])
    return value


def odd_values():
    """Values of all the kinds for which an error must be raised where they are invalid."""
    numbers = [0, 1, -1, 2, 33, 65, 10**30 - 1, 10**30, 1 - 10**30, -(10**30), 10**40 - 1, -(10**40) + 1]
    texts = ["", "a", "A", "abcdefghi", "a1", "a b", "a\n", "a.0", "a.3", ".", "a.", "a.00", "_", "@", "~" * 300, "\n"]
    tuples = [(), (0,), (0, 1), (True, 1), (None, None), ("at",), ("at", "a"), ("load",), ("op",), ("hole",)]
    tuples += [("set", "a"), ("store", "s"), ((), ()), (([],), {}), (0, 1, 2), ("nearest", 0, 0), ("gap", 0, 0)]
    tuples += [("modulus", 2), ("covered", {}, {}), ("bare", {}), ("within", {}), ("beyond", {}), (DOT,), (1, ())]
    others = [None, True, False, [], [0, 1], {}, {"a": 1}, {0: "a"}, {None: ()}, {(): []}, [[]], {"a": {"b": ["c"]}}]
    objects = [DOT, CHIP, Meetings((1, 0), (1, 0)), [DOT], {"a": CHIP}, Lives(1, {"q": (0, 1)}), Points(1, {"q": (0,)})]
    objects.append(Job(DOT, CHIP, {"mul": "mulld", "mul.1": "get", "sum": "add"}))
    objects.append(Moves(Points(3, {"q": (0, 2)}), {"q": 0}, {("q", 1): 1}))
    objects.append(Kernel(Job(HOLD, KEEP, {"a": "h"}), 1, 1, 0, ((("op", "a", 0, 0, (), ()),),)))
    deep = [nested(kind, 40) for kind in (tuple, list, dict)]
    deep.append(("op", "f", nested(tuple, 38)))
    return numbers + texts + tuples + others + objects + deep


def refused(test, error, call, *args, **more):
    """The error of just this class that a call raises."""
    try:
        call(*args, **more)
    except Exception as e:
        test.assertIs(type(e), error, (call, args, more, e))
        return e
    test.fail(f"no {error.__name__} for {call} with {args} {more}")


def refuses_number(test, value, call, *args, **more):
    """Check that a call raises InvalidNumber with just this value."""
    from loopfoundry.errors import InvalidNumber

    kept = refused(test, InvalidNumber, call, *args, **more).value
    test.assertIs(type(kept), type(value))
    test.assertEqual(kept, value)


def refuses_name(test, wanted, call, *args, **more):
    """Check that a call raises UnknownName with just this value."""
    from loopfoundry.errors import UnknownName

    kept = refused(test, UnknownName, call, *args, **more).wanted
    test.assertIs(type(kept), type(wanted))
    test.assertEqual(kept, wanted)


def is_plain(value):
    return type(value) is int


def fits_digits(value):
    return type(value) is int and abs(value) < 10**30


def ascending(rows):
    rows = list(rows)
    return all(one < other for one, other in zip(rows, rows[1:]))


OPERATORS = {"f": 1, "g": 2, "h": 0, "k": 3}
ARRAYS = ("x", "y")


def draw_tree(random, levels, scalars, spread=4):
    """A tree of at most so many levels; "at"s read the scalars, with any distance."""
    kind = random.choice(("at", "load", "op", "op") if scalars else ("load", "op", "op"))
    if levels == 1 and kind == "op":
        kind = "load"
    if kind == "at":
        return ("at", random.choice(scalars), random.randint(1, 3))
    if kind == "load":
        return ("load", random.choice(ARRAYS), random.randint(-2, 3), random.randint(-spread, spread))
    operator = random.choice(sorted(OPERATORS))
    return ("op", operator, *[draw_tree(random, levels - 1, scalars, spread) for _ in range(OPERATORS[operator])])


def draw_statements(random, most=4, levels=3, spread=4):
    """Some statements that are perhaps a body."""
    names = random.sample(["a", "ab", "b", "c", "sum", "put"], random.randint(1, most))
    kinds = {name: random.choice(("set", "store")) for name in names}
    scalars = [name for name in names if kinds[name] == "set"]
    rows = []
    for name in names:
        tree = draw_tree(random, levels, scalars, spread)
        while kinds[name] == "set" and tree[0] == "at":
            tree = draw_tree(random, levels, scalars, spread)
        if kinds[name] == "set":
            rows.append(("set", name, tree))
        else:
            step = random.choice((-3, -2, -1, 1, 2, 3))
            rows.append(("store", name, random.choice(ARRAYS), step, random.randint(-spread, spread), tree))
    return rows


def lowered(random, rows):
    """The statements with distance 0 in some "at"s that read an earlier statement."""
    done = []

    def change(tree):
        if tree[0] == "at" and tree[1] in done and random.random() < 0.5:
            return ("at", tree[1], 0)
        if tree[0] == "op":
            return (*tree[:2], *[change(below) for below in tree[2:]])
        return tree

    new = []
    for row in rows:
        new.append((*row[:-1], change(row[-1])))
        if row[0] == "set":
            done.append(row[1])
    return new


def draw_body(random, most=4, levels=3, limit=24, spread=4):
    """A body with at most so many working nodes."""
    from loopfoundry.errors import InvalidBody

    while True:
        try:
            body = Body(*lowered(random, draw_statements(random, most, levels, spread)))
        except InvalidBody:
            continue
        if len(body.operations) <= limit:
            return body


def draw_shape(random, room):
    """A shape of at most so many working nodes, and how many it has."""
    if room == 0 or random.random() < 0.4:
        return ("hole",), 0
    if random.random() < 0.35:
        return ("load",), 1
    operator, total = random.choice(sorted(OPERATORS)), 1
    parts = []
    for _ in range(OPERATORS[operator]):
        part, many = draw_shape(random, room - total)
        parts.append(part)
        total += many
    return ("op", operator, *parts), total


def draw_machine(random, patterns=5):
    """A machine whose patterns often fit the drawn bodies."""
    units = {unit: random.randint(1, 3) for unit in random.sample(["u", "v", "w"], random.randint(0, 3))}
    rows = []
    for name in random.sample(["p", "q", "r", "s", "t", "x", "y", "z"], patterns):
        if random.random() < 0.25:
            shape = ("store", draw_shape(random, 2)[0])
        else:
            shape = ("hole",)
            while shape == ("hole",):
                shape = draw_shape(random, 3)[0]
        uses = sorted({(unit, random.randint(0, 3)) for unit in units if random.random() < 0.5})
        rows.append((name, shape, random.randint(1, 4), random.randint(0, 4), tuple(uses)))
    return Machine(units, *rows)


def full_machine(random, patterns=8):
    """A machine that covers each drawn body, with some patterns more."""
    rows = [("l", ("load",), 2, 1, ()), ("m", ("store", ("hole",)), 1, 1, ())]
    for operator, many in sorted(OPERATORS.items()):
        rows.append((operator, ("op", operator, *[("hole",)] * many), 1, random.randint(0, 3), ()))
    extra = draw_machine(random, patterns - len(rows))
    rows += [(*row[:4], ()) for row in extra.patterns]
    random.shuffle(rows)
    return Machine({}, *rows)


def seeded(number):
    return Random(number)


def unit_machine(random, patterns=8, chance=0.4, most=2, ticks=4):
    """A machine that covers each drawn body, whose patterns often use units."""
    units = {unit: random.randint(1, most) for unit in random.sample(["u", "v"], random.randint(1, 2))}

    def uses():
        if random.random() >= chance:
            return ()
        return tuple(sorted({(random.choice(sorted(units)), random.randint(0, 3)) for _ in range(random.randint(1, 2))}))

    rows = [("l", ("load",), random.randint(1, ticks), 1, uses()), ("m", ("store", ("hole",)), random.randint(1, 2), 1, uses())]
    for operator, many in sorted(OPERATORS.items()):
        shape = ("op", operator, *[("hole",)] * many)
        rows.append((operator, shape, random.randint(1, ticks), random.randint(0, 3), uses()))
    extra = draw_machine(random, patterns - len(rows))
    rows += [(*row[:4], uses()) for row in extra.patterns]
    random.shuffle(rows)
    save, reload = [(random.randint(1, 4), uses()) for _ in range(2)]
    return Machine(units, *rows, save=save, reload=reload)


def draw_job(random, most=4, levels=3, limit=24, spread=4, chance=0.4):
    """A job by a machine with units."""
    from loopfoundry.covers.orders import count_covers, cover_at

    body = draw_body(random, most, levels, limit, spread)
    machine = unit_machine(random, chance=chance)
    return Job(body, machine, cover_at(body, machine, random.randrange(count_covers(body, machine))))


def fitting_starts(random, job, interval, arcs=None):
    """Starts that fit the arcs, or None: each as early as it can be behind a drawn one."""
    arcs = job.arcs if arcs is None else arcs
    starts = {text: random.randint(0, 6) for text in job.operations}
    for _ in range(len(starts) + 2):
        late = [arc for arc in arcs if starts[arc[1]] < starts[arc[0]] + arc[2] - interval * arc[3]]
        if not late:
            return starts
        for source, target, delay, distance in late:
            starts[target] = max(starts[target], starts[source] + delay - interval * distance)
    return None


def operand_arcs(job):
    rows = [(source, text, job.ticks(source), gap) for text in job.operations for source, gap in job.operands(text)]
    return sorted(set(rows))


def draw_starts(random, job):
    return {text: random.randint(0, 12) for text in job.operations}


def second_arcs(job, limit=60):
    """The arcs of a job from what its patterns read, by all pairs of rounds below a limit."""
    rows, body = set(), job.body
    for target in job.operations:
        for source, distance in job.operands(target):
            rows.add((source, target, job.ticks(source), distance))
        for load in job.loaded(target):
            _, array, step, offset = next(row for row in body.loads if row[0] == load)
            for store, stored, other_step, other_offset in body.stores:
                if stored != array:
                    continue
                ahead = body.names.index(store) < body.names.index(load.split(".")[0])
                flow, anti = [], []
                for j in range(limit):
                    rest = step * j + offset - other_offset
                    if rest % other_step == 0 and 0 <= rest // other_step < limit:
                        i = rest // other_step
                        (flow if j > i or (j == i and ahead) else anti).append(abs(i - j))
                if flow:
                    rows.add((store, target, job.ticks(store), min(flow)))
                if anti:
                    rows.add((target, store, 1 - job.ticks(store), min(anti)))
    return tuple(sorted(row for row in rows if row[0] != row[1] or row[3] != 0))


def symbols():
    """A meaning, first values and contents that keep all that they are told."""
    return (
        lambda operator, values: (operator, values),
        lambda name, number: ("first", name, number),
        lambda array, cell: ("contents", array, cell),
    )


def draw_rings(random):
    """A body of operators that read one another, and a machine with several patterns for each, most with units."""
    many = random.randint(3, 8)
    names, kinds = "abcdefgh"[:many], ["f"] * random.randint(0, 2) + ["g"] * random.randint(1, 2)
    kinds += ["k"] * (many - len(kinds))
    random.shuffle(kinds)
    rows = []
    for place, name in enumerate(names):
        ats = []
        for _ in range(1 if kinds[place] == "k" else 2):
            earlier = place and random.random() < 0.6
            ats.append(("at", random.choice(names[:place]), 0) if earlier else ("at", random.choice(names), random.choice((1, 1, 2, 3))))
        rows.append(("set", name, ("op", kinds[place], *ats)))
    return Body(*rows), ring_machine(random, (("f", 2), ("g", 2)), ("k", 1))


def draw_deep(random):
    """A body of trees of several levels, and a machine with several patterns for each of its operators."""
    rows = [("set", "a", ("op", "f", ("op", "g", ("op", "h"), ("at", "b", random.randint(1, 3))), ("at", "a", 1)))]
    below = ("op", random.choice("kg"), ("at", "a", random.randint(0, 1)), ("op", "h"))
    rows.append(("set", "b", below if below[1] == "g" else below[:3]))
    if random.random() < 0.5:
        rows.append(("store", "s", "x", 1, random.randint(0, 2), ("op", "k", ("load", "x", 1, 0))))
    machine = ring_machine(random, (("f", 2), ("g", 2), ("h", 0)), ("k", 1))
    extra = [("l", ("load",), 2, 1, ()), ("s", ("store", ("hole",)), 1, 1, ())]
    return Body(*rows), Machine.of(machine.units, (*machine.patterns[:6], *extra))


def ring_machine(random, kinds, last):
    """A machine with several patterns with units for operators of some kinds, and one without for the last one."""
    units = {unit: random.choice((1, 1, 2)) for unit in "uv"[: random.randint(1, 2)]}
    rows = [(last[0], ("op", last[0], *[("hole",)] * last[1]), random.randint(1, 4), 1, ())]
    for operator, many in kinds:
        for letter in "xyz"[: random.randint(1, 3)]:
            uses = {(random.choice(sorted(units)), random.randint(0, 3)) for _ in range(random.randint(0, 4))}
            shape = ("op", operator, *[("hole",)] * many)
            rows.append((operator + letter, shape, random.randint(1, 4), random.randint(0, 4), tuple(sorted(uses))))
    rows = rows[:1] + random.sample(rows[1:], len(rows) - 1)
    return Machine.of(units, tuple(rows[:8]))


def told_parts(shape, tree, text):
    """The holes and the loads of a shape that fits, from left to right: (kind, text, node)."""
    if shape[0] in ("hole", "load"):
        return [(shape[0], text, tree)]
    if shape[0] == "store":
        return told_parts(shape[1], tree[5], f"{text}.0")
    rows = []
    for place, part in enumerate(shape[2:]):
        rows += told_parts(part, tree[2 + place], f"{text}.{place}")
    return rows


def told_arcs(body, machine, told, limit=60):
    """The told arcs of some operations with told patterns, by all pairs of rounds below a limit."""
    rows = set()
    ticks = {text: machine.pattern(name)[2] for text, name in told.items()}
    for target, name in told.items():
        for kind, text, node in told_parts(machine.pattern(name)[1], body.tree(target), target):
            if kind == "hole":
                source, distance = (node[1], node[2]) if node[0] == "at" else (text, 0)
                if source in told:
                    rows.add((source, target, ticks[source], distance))
                continue
            _, array, step, offset = node
            for store, stored, other_step, other_offset in body.stores:
                if stored == array and store in told:
                    ahead = body.names.index(store) < body.names.index(text.split(".")[0])
                    flow, anti = [], []
                    for j in range(limit):
                        rest = step * j + offset - other_offset
                        if rest % other_step == 0 and 0 <= rest // other_step < limit:
                            i = rest // other_step
                            (flow if j > i or (j == i and ahead) else anti).append(abs(i - j))
                    if flow:
                        rows.add((store, target, ticks[store], min(flow)))
                    if anti:
                        rows.add((target, store, 1 - ticks[store], min(anti)))
    return sorted(row for row in rows if row[0] != row[1] or row[3] != 0)


class SecondJudge:
    """A plain judge of trees of cases."""

    def __init__(self, body, machine, interval, most):
        from loopfoundry.covers.covers import fitting, open_cost, open_nodes

        self.body, self.machine, self.interval, self.most = body, machine, interval, most
        self.fitting = fitting(body, machine)
        self.open_cost = lambda told: open_cost(body, machine, told)
        self.open_nodes = lambda told: open_nodes(body, machine, told)
        self.arcs = {}

    def has_costly_floor(self, told):
        cost = self.open_cost(told)
        return cost is None or (self.most is not None and cost > self.most)

    def overasked(self, told, slots):
        counts = {}
        for text, slot in slots.items():
            for unit, offset in self.machine.pattern(told[text])[4]:
                at = (unit, (slot + offset) % self.interval)
                counts[at] = counts.get(at, 0) + 1
        return sorted(at for at, many in counts.items() if many > self.machine.copies(at[0]))

    def strongest(self, told):
        key = tuple(sorted(told.items()))
        if key not in self.arcs:
            weights = {}
            for source, target, delay, distance in told_arcs(self.body, self.machine, told):
                weight = delay - self.interval * distance
                weights[source, target] = max(weight, weights.get((source, target), weight))
            self.arcs[key] = weights
        return self.arcs[key]

    def gains(self, told, slots, circuit):
        weights = self.strongest(told)
        pairs = list(zip(circuit, [*circuit[1:], circuit[0]]))
        if not 1 <= len(circuit) <= 64 or any(pair not in weights for pair in pairs):
            return False
        if len(circuit) > 1 and any(one == other for one, other in pairs):
            return False
        places = [k for k, text in enumerate(circuit) if text in slots]
        if not places:
            return sum(weights[pair] for pair in pairs) > 0
        need = 0
        for k, place in enumerate(places):
            end = places[k + 1] if k + 1 < len(places) else places[0] + len(circuit)
            total = sum(weights[pairs[at % len(circuit)]] for at in range(place, end))
            apart = slots[circuit[end % len(circuit)]] - slots[circuit[place]]
            while (total - apart) % self.interval:
                total += 1
            need += total
        return need > 0

    def is_right(self, tree, told, slots):
        if type(tree) is not tuple or not tree or len(tree) != {"cost": 1, "circuit": 2}.get(tree[0], 3):
            return False
        if tree == ("cost",):
            return self.has_costly_floor(told)
        if tree[0] == "unit":
            return type(tree[2]) is int and tree[1:] in self.overasked(told, slots)
        if type(tree[-1]) is not tuple:
            return False
        if tree[0] == "circuit":
            return all(text in told for text in tree[1]) and self.gains(told, slots, tree[1])
        if tree[0] not in ("pattern", "slot"):
            return False
        if tree[0] == "pattern":
            if tree[1] not in self.open_nodes(told):
                return False
            if any(type(row) is not tuple or len(row) != 2 for row in tree[2]):
                return False
            if [name for name, _ in tree[2]] != sorted(self.fitting[tree[1]]):
                return False
            return all(self.is_right(below, {**told, tree[1]: name}, slots) for name, below in tree[2])
        if type(tree[1]) is not str or tree[1] not in told or tree[1] in slots:
            return False
        if len(tree[2]) != self.interval and (slots or len(tree[2]) != 1):
            return False
        return all(self.is_right(below, told, {**slots, tree[1]: slot}) for slot, below in enumerate(tree[2]))


def drawn_tree(random, judge, told, slots, room):
    """A bar with patterns and slots split in any order, or None where there is none in this room."""
    if judge.has_costly_floor(told):
        return ("cost",)
    leaf = drawn_leaf(random, judge, told, slots)
    if leaf is not None:
        return leaf
    kinds = [("pattern", node) for node in judge.open_nodes(told)]
    kinds += [("slot", text) for text in told if text not in slots]
    if not kinds or room == 0:
        return None
    kind, text = random.choice(kinds)
    rows = []
    if kind == "pattern":
        for name in sorted(judge.fitting[text]):
            rows.append((name, drawn_tree(random, judge, {**told, text: name}, slots, room - 1)))
        return None if None in [row[1] for row in rows] else (kind, text, tuple(rows))
    many = 1 if not slots and random.random() < 0.5 else judge.interval
    for slot in range(many):
        rows.append(drawn_tree(random, judge, told, {**slots, text: slot}, room - 1))
        if rows[-1] is None:
            return None
    return (kind, text, tuple(rows))


def drawn_leaf(random, judge, told, slots):
    """A leaf that is right, or None."""
    units = judge.overasked(told, slots)
    if units and random.random() < 0.7:
        return ("unit", *random.choice(units))
    texts, weights = sorted(told), judge.strongest(told)
    for _ in range(12):
        circuit = [random.choice(texts)] if texts else []
        while circuit and len(circuit) <= 8:
            if judge.gains(told, slots, tuple(circuit)):
                return ("circuit", tuple(circuit))
            following = [target for source, target in weights if source == circuit[-1] and target != source]
            if not following:
                break
            circuit.append(random.choice(following))
    return ("unit", *units[0]) if units else None


def all_slots_plan(job, interval, fixed=None):
    """Whether a job has a plan: by all slots of its operations with units, the first of which has 0."""
    from itertools import product

    asking = [text for text in job.operations if job.uses(text)]
    for rest in product(range(interval), repeat=max(0, len(asking) - 1)):
        slots = dict(zip(asking, (0, *rest)))
        counts = {}
        for text, slot in slots.items():
            for unit, offset in job.uses(text):
                at = (unit, (slot + offset) % interval)
                counts[at] = counts.get(at, 0) + 1
        if all(many <= job.machine.units[at[0]] for at, many in counts.items()) and slots_fit(job, interval, slots):
            return True
    return False


def slots_fit(job, interval, slots):
    """Whether some starts that fit have these slots."""
    starts = {text: slots.get(text, 0) for text in job.operations}
    for _ in range(len(starts) + 2):
        late = [arc for arc in job.arcs if starts[arc[1]] < starts[arc[0]] + arc[2] - interval * arc[3]]
        if not late:
            return True
        for source, target, delay, distance in late:
            least = starts[source] + delay - interval * distance
            while starts[target] < least:
                starts[target] += interval if target in slots else 1
    return False


def bent_values(random, value, others):
    """The value with one entry exchanged, left out, put in or bent, somewhere in it."""
    if not isinstance(value, tuple) or (value and random.random() < 0.25):
        return random.choice(others) if not isinstance(value, tuple) or random.random() < 0.5 else list(value)
    rows = list(value)
    kind = random.choice(("in", "out", "swap", "below", "below", "below", "below"))
    if kind == "in" or not rows:
        rows.insert(random.randint(0, len(rows)), random.choice([*others, *rows]))
    elif kind == "out":
        rows.pop(random.randrange(len(rows)))
    elif kind == "swap":
        one, other = random.randrange(len(rows)), random.randrange(len(rows))
        rows[one], rows[other] = rows[other], rows[one]
    else:
        at = random.randrange(len(rows))
        rows[at] = bent_values(random, rows[at], others)
    return tuple(rows)
