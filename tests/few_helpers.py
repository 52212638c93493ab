"""What the tests of few registers share: drawn points, all moves, files by force, trees by another hand."""

from itertools import combinations, product

from loopfoundry.errors import InvalidArgument
from loopfoundry.few.moves import Moves
from loopfoundry.few.points import Points


def draw_points(random, most=4, gaps=3, width=5):
    """Points with at most so many gaps that can be gone."""
    while True:
        interval, rows = random.randint(1, width), {}
        for key in random.sample(["a", "b.0", "c", "mul.1"], random.randint(0, most)):
            rows[key] = tuple(sorted(random.sample(range(-3, 9), random.randint(1, 4))))

        def table():
            uses = {(random.choice("uv"), random.randint(0, 3)) for _ in range(random.randint(0, 2))}
            return random.randint(1, 2), tuple(sorted(uses))

        units = {(unit, slot): random.randint(0, 3) for unit in "uv" for slot in range(interval) if random.random() < 0.8}
        points = Points(interval, rows, save=table(), reload=table(), spare=units)
        if len(points.gaps) <= gaps:
            return points


def all_moves(points):
    """All moves: by all choices of gaps, of late saves and of early reloads."""
    rows = []
    for many in range(len(points.gaps) + 1):
        for gone in combinations(points.gaps, many):
            keys = sorted({key for key, _ in gone})
            for late in product((0, 1), repeat=len(keys)):
                saves = {key: points[key][0] + more for key, more in zip(keys, late)}
                for early in product((0, 1), repeat=len(gone)):
                    times = [points[key][j] - points.reload[0] - less for (key, j), less in zip(gone, early)]
                    try:
                        rows.append(Moves(points, saves, dict(zip(gone, times))))
                    except InvalidArgument:
                        continue
    return rows


def shares(lives, registers, interval, bases):
    """Whether two values that are alive in one tick share a register, by many rounds and ticks."""
    for tick in range(interval):
        seen = set()
        for key, (begin, end) in lives.items():
            for number in range((tick - end) // interval - 1, (tick - begin) // interval + 2):
                if begin + interval * number <= tick < end + interval * number:
                    if (bases[key] + number) % registers in seen:
                        return True
                    seen.add((bases[key] + number) % registers)
    return False


def forced_registers(lives, interval):
    """The least number of registers with bases, by force."""
    registers = 0
    while True:
        for row in product(range(registers), repeat=len(lives)):
            if not shares(lives, registers, interval, dict(zip(sorted(lives), row))):
                return registers
        registers += 1


class SecondJudge:
    """A plain judge of trees for few registers, by the words of the document."""

    def __init__(self, points, registers, cells, most):
        self.points, self.registers, self.cells, self.most = points, registers, cells, most

    def items(self, told):
        """All items that can be told and are not."""
        rows = [("gap", *gap) for gap in self.points.gaps]
        gone = self.gone(told)
        rows += [("save", key) for key in sorted({key for key, _ in gone})] + [("reload", *gap) for gap in gone]
        return [item for item in rows if item not in told]

    def gone(self, told):
        return [item[1:] for item in told if item[0] == "gap" and told[item]]

    def sure(self, told):
        """The sure stays and the sure area, as sets of ticks."""
        stays, area = {}, {}
        for key in self.points:
            ticks, first = self.points[key], 0
            for j in range(len(ticks)):
                can = (key, j) in self.points.gaps
                if j == 0:
                    stays[f"{key}:0"] = (ticks[0], ticks[0])
                elif can and told.get(("gap", key, j)) is not False:
                    first = j
                    stays[f"{key}:{j}"] = (ticks[j] - (told.get(("reload", key, j)) is True), ticks[j])
                else:
                    stays[f"{key}:{first}"] = (stays[f"{key}:{first}"][0], ticks[j])
            if told.get(("save", key)) is True:
                begin, end = stays[f"{key}:0"]
                stays[f"{key}:0"] = (begin, max(end, ticks[0] + 1))
            gone = [j for text, j in self.gone(told) if text == key]
            if gone:
                writing = ticks[0] + (told.get(("save", key)) is not False) + self.points.save[0]
                last = max(gone)
                start = ticks[last] - self.points.reload[0] - (told.get(("reload", key, last)) is not False)
                if start >= writing:
                    area[key] = (writing, start)
        return {k: (a, b + 1) for k, (a, b) in stays.items()}, {k: (a, b + 1) for k, (a, b) in area.items()}

    def asking(self, told):
        counts = {}
        for item, late in told.items():
            if item[0] == "gap":
                continue
            ticks, table = self.points[item[1]], self.points.save if item[0] == "save" else self.points.reload
            start = ticks[0] + late if item[0] == "save" else ticks[item[2]] - table[0] - late
            for unit, offset in table[1]:
                at = (unit, (start + offset) % self.points.interval)
                counts[at] = counts.get(at, 0) + 1
        return {at: many for at, many in counts.items() if many > self.points.spare.get(at, 0)}

    def is_out_of_order(self, told, key, j):
        if (key, j) not in self.gone(told):
            return False
        ticks, early = self.points[key], told.get(("reload", key, j)) is True
        if early and ticks[j] == ticks[j - 1] + 1:
            return True
        writing = ticks[0] + (told.get(("save", key)) is True) + self.points.save[0]
        return ticks[j] - self.points.reload[0] - early < writing

    def leaves(self, told):
        """All leaves that are right by what is told."""
        from loopfoundry.files.lives import Lives

        rows, gone = [], self.gone(told)
        if self.most is not None and len(gone) + len({key for key, _ in gone}) > self.most:
            rows.append(("moves",))
        rows += [("order", key, j) for key, j in self.points.gaps if self.is_out_of_order(told, key, j)]
        rows += [("unit", *at) for at in sorted(self.asking(told))]
        for word, lives, limit in zip(("registers", "cells"), self.sure(told), (self.registers, self.cells)):
            told_lives = Lives(self.points.interval, lives)
            for slot in range(self.points.interval):
                if told_lives.alive(slot) > limit:
                    rows.append(("alive", word, slot))
            if told_lives.most == limit:
                for many in range(1, len(lives)):
                    for keys in combinations(sorted(lives), many):
                        if told_lives.is_apart(*keys):
                            rows.append(("apart", word, keys))
        return rows

    def is_right(self, tree, told):
        if type(tree) is not tuple or not tree:
            return False
        if tree[0] == "split":
            if len(tree) != 4 or not any(same(tree[1], item) for item in self.items(told)):
                return False
            return all(self.is_right(tree[2 + k], {**told, tree[1]: bool(k)}) for k in (0, 1))
        return any(same(tree, leaf) for leaf in self.leaves(told))


def same(one, other):
    """Whether two values are equal, with equal kinds everywhere."""
    if type(one) is not type(other):
        return False
    if type(one) is tuple:
        return len(one) == len(other) and all(same(a, b) for a, b in zip(one, other))
    return one == other


def drawn_tree(random, judge, told, room):
    """A tree that splits items in any order, also ones that need not be, or None where there is none in this room."""
    leaves = judge.leaves(told)
    if leaves and (random.random() < 0.8 or not room):
        return random.choice(leaves)
    items = judge.items(told)
    if not items or not room:
        return random.choice(leaves) if leaves else None
    item = random.choice(items)
    rows = [drawn_tree(random, judge, {**told, item: worth}, room - 1) for worth in (False, True)]
    return None if None in rows else ("split", item, *rows)
