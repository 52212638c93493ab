"""Shapes, where they fit, and their texts."""

import unittest

from loopfoundry.errors import InvalidArgument, InvalidTree, ParseError
from loopfoundry.machine.shapes import MAX_SHAPE, fits, holes, is_shape, loads, read_shape, write_shape
from tests.helpers import DOT, PAIRS, draw_shape, draw_tree, odd_values, refused, seeded

HOLE, LOAD = ("hole",), ("load",)
LEAF = ("load", "a", 1, 0)


def second_fits(shape, tree):
    """Whether a shape fits, by the words of the document."""
    if shape[0] == "store" or tree[0] == "store":
        return (shape[0], tree[0]) == ("store", "store") and second_fits(shape[1], tree[5])
    match shape:
        case ("hole",):
            return True
        case ("load",):
            return tree[0] == "load"
        case ("op", operator, *parts):
            if tree[0] != "op" or tree[1] != operator or len(tree) - 2 != len(parts):
                return False
            return all(second_fits(part, below) for part, below in zip(parts, tree[2:]))


def cut(random, tree):
    """A shape that fits the tree: with holes in the place of some trees."""
    if random.random() < 0.3:
        return HOLE
    if tree[0] != "op":
        return LOAD if tree[0] == "load" else HOLE
    return (*tree[:2], *[cut(random, below) for below in tree[2:]])


def working(shape):
    here = 0 if shape[0] == "hole" else 1
    return here + sum(working(part) for part in shape if isinstance(part, tuple))


def chain(many, last):
    for _ in range(many):
        last = ("op", "f", last)
    return last


class ShapesTest(unittest.TestCase):
    def test_sizes(self):
        self.assertEqual(MAX_SHAPE, 4)
        self.assertIs(is_shape(chain(4, HOLE)), True)
        self.assertIs(is_shape(chain(5, HOLE)), False)
        self.assertIs(is_shape(chain(3, LOAD)), True)
        self.assertIs(is_shape(chain(4, LOAD)), False)
        self.assertIs(is_shape(("store", chain(3, HOLE))), True)
        self.assertIs(is_shape(("store", chain(4, HOLE))), False)
        self.assertIs(is_shape(("store", chain(2, LOAD))), True)
        self.assertIs(is_shape(("store", chain(3, LOAD))), False)
        self.assertIs(is_shape(("op", "f", LOAD, LOAD, LOAD)), True)
        self.assertIs(is_shape(("op", "f", LOAD, LOAD, ("op", "g", LOAD))), False)
        self.assertIs(is_shape(("op", "f", ("op", "g", HOLE, LOAD), HOLE, LOAD)), True)
        self.assertIs(is_shape(("op", "f", ("op", "g", LOAD, LOAD), HOLE, LOAD)), False)
        wide = ("op", "f", *[("op", "f", HOLE, HOLE, HOLE)] * 3)
        self.assertIs(is_shape(wide), True)
        self.assertIs(is_shape(("store", wide)), False)

    def test_shapes(self):
        for shape in (HOLE, LOAD, ("store", HOLE), ("store", LOAD), ("op", "f"), ("op", "abcdefgh", HOLE, HOLE, HOLE)):
            self.assertIs(is_shape(shape), True)
        for value in (
            ("hole", 1),
            ("load", "a"),
            LEAF,
            ("store",),
            ("store", HOLE, HOLE),
            ("store", ("store", HOLE)),
            ("op", "f", ("store", HOLE)),
            ("op", "f", HOLE, HOLE, HOLE, HOLE),
            ("op",),
            ("op", "F"),
            ("op", "f", [HOLE]),
            ["hole"],
            ("HOLE",),
            ("at", "a", 1),
            ("op", "f", "hole"),
        ):
            self.assertIs(is_shape(value), False, value)
        for value in odd_values():
            self.assertIs(is_shape(value), value == HOLE or value == LOAD)
            self.assertIs(is_shape(("store", value)), value == HOLE or value == LOAD)
            self.assertIs(is_shape((value, HOLE)), False)
            self.assertIs(is_shape(("op", "f", HOLE, value)), value == HOLE or value == LOAD)

    def test_fits(self):
        random = seeded(30)
        found = []
        for _ in range(1500):
            tree = draw_tree(random, 4, ["a"])
            shape = cut(random, tree) if random.random() < 0.5 else draw_shape(random, 4)[0]
            if not is_shape(shape):
                continue
            found.append(second_fits(shape, tree))
            self.assertIs(fits(shape, tree), found[-1])
            store = ("store", "s", "x", 1, 0, tree)
            self.assertIs(fits(shape, store), False)
            if is_shape(("store", shape)):
                self.assertIs(fits(("store", shape), store), found[-1])
                self.assertIs(fits(("store", shape), tree), False)
        self.assertGreater(min(found.count(True), found.count(False)), 100)

    def test_hand_made_fits(self):
        self.assertIs(fits(HOLE, ("at", "a", 0)), True)
        self.assertIs(fits(LOAD, ("at", "a", 0)), False)
        self.assertIs(fits(("op", "a", HOLE, HOLE), LEAF), False)
        self.assertIs(fits(("op", "a", HOLE), ("at", "a", 0)), False)
        self.assertIs(fits(("op", "f"), ("op", "f")), True)
        self.assertIs(fits(("op", "f"), ("op", "f", LEAF)), False)
        self.assertIs(fits(("op", "f", HOLE), ("op", "g", LEAF)), False)
        self.assertIs(fits(("store", LOAD), ("store", "s", "x", 1, 0, LEAF)), True)
        self.assertIs(fits(("store", HOLE), ("store", "s", "x", 1, 0, ("at", "a", 0))), True)
        self.assertIs(fits(("store", HOLE), PAIRS["put"]), True)
        self.assertIs(fits(HOLE, PAIRS["put"]), False)
        self.assertIs(fits(("op", "f", LOAD), PAIRS["put"][5]), True)

    def test_wrong_fits(self):
        for value in odd_values():
            if value not in (HOLE, LOAD):
                refused(self, InvalidArgument, fits, value, LEAF)
                refused(self, InvalidArgument, fits, value, None)
                refused(self, InvalidArgument, holes, value)
                refused(self, InvalidArgument, loads, value)
                refused(self, InvalidArgument, write_shape, value)
            refused(self, InvalidTree, fits, HOLE, value)
            refused(self, InvalidTree, fits, ("store", HOLE), value)
        refused(self, InvalidTree, fits, HOLE, DOT["mul"])
        refused(self, InvalidTree, fits, ("store", HOLE), DOT["mul"])
        refused(self, InvalidTree, fits, ("store", HOLE), ("store", "s", "x", 0, 0, LEAF))


class TextsTest(unittest.TestCase):
    def test_paths(self):
        shape = ("op", "f", HOLE, ("op", "g", LOAD, HOLE), LOAD)
        self.assertEqual(holes(shape), ((0,), (1, 1)))
        self.assertEqual(loads(shape), ((1, 0), (2,)))
        self.assertEqual((holes(HOLE), loads(HOLE), holes(LOAD), loads(LOAD)), (((),), (), (), ((),)))
        self.assertEqual(holes(("store", HOLE)), ((0,),))
        self.assertEqual(loads(("store", ("op", "f", HOLE, LOAD))), ((0, 1),))
        random = seeded(31)
        for _ in range(300):
            shape = draw_shape(random, 4)[0]
            told = list(self.second_paths(shape, ()))
            self.assertEqual(holes(shape), tuple(sorted(path for path, kind in told if kind == "hole")))
            self.assertEqual(loads(shape), tuple(sorted(path for path, kind in told if kind == "load")))
            self.assertEqual(working(shape), sum(kind != "hole" for _, kind in told))

    def second_paths(self, shape, path):
        yield path, shape[0]
        for index, part in enumerate(shape[2:]):
            yield from self.second_paths(part, (*path, index))

    def test_texts(self):
        for text, shape in (
            ("_", HOLE),
            ("@", LOAD),
            ("= _", ("store", HOLE)),
            ("= @", ("store", LOAD)),
            ("pi ( )", ("op", "pi")),
            ("add ( mul ( _ @ ) _ )", ("op", "add", ("op", "mul", HOLE, LOAD), HOLE)),
            ("= f ( g ( h ( _ ) ) )", ("store", chain(0, ("op", "f", ("op", "g", ("op", "h", HOLE)))))),
        ):
            self.assertEqual(write_shape(shape), text)
            self.assertEqual(read_shape(text), shape)
        random = seeded(32)
        for _ in range(500):
            shape = draw_shape(random, 4)[0]
            self.assertEqual(read_shape(write_shape(shape)), shape)
            if is_shape(("store", shape)):
                self.assertEqual(read_shape("= " + write_shape(shape)), ("store", shape))
        longest = ("op", "f", *[("op", "f", HOLE, HOLE, HOLE)] * 3)
        self.assertEqual(read_shape(write_shape(longest)), longest)

    def test_no_texts(self):
        for text in (
            "",
            " ",
            "_ ",
            " _",
            "_ _",
            "=_",
            "=",
            "= = _",
            "f",
            "f (",
            "f ( _",
            "f ()",
            "f( )",
            "f (  )",
            "f ( _  _ )",
            "f ( ) )",
            "( _ )",
            "f ( _ _ _ _ )",
            "F ( )",
            "abcdefghi ( )",
            "f ( f ( f ( f ( @ ) ) ) )",
            "f ( f ( f ( f ( f ( _ ) ) ) ) )",
            "= f ( f ( f ( f ( _ ) ) ) )",
            "f ( = _ )",
            "f ( _ )\n",
            "f\n( _ )",
            "f ( _ ) _",
            "f ( @ @ @ ) @",
            "_\n",
            "f ( " * 400 + "_" + " )" * 200,
            "f ( " * 499,
            ") " * 900,
        ):
            self.assertIsNone(refused(self, ParseError, read_shape, text).line)
        for value in odd_values():
            if value not in ("_", "@"):
                self.assertIsNone(refused(self, ParseError, read_shape, value).line)

    def test_bent_texts(self):
        random = seeded(33)
        signs = ["_", "@", "(", ")", "=", "f", "g", "", "F"]
        kept = 0
        for _ in range(2000):
            words = write_shape(draw_shape(random, 4)[0]).split(" ")
            at = random.randrange(len(words))
            if random.random() < 0.3:
                del words[at]
            elif random.random() < 0.5:
                words.insert(at, random.choice(signs))
            else:
                words[at] = random.choice(signs)
            text = " ".join(words)
            try:
                shape = read_shape(text)
            except ParseError as e:
                self.assertIsNone(e.line)
            else:
                kept += 1
                self.assertIs(is_shape(shape), True)
                self.assertEqual(write_shape(shape), text)
        self.assertGreater(kept, 100)


if __name__ == "__main__":
    unittest.main()
