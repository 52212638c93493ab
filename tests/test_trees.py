"""Trees, statements and the texts of operations."""

import unittest
from itertools import product

from loopfoundry.errors import InvalidArgument, InvalidTree
from loopfoundry.source import trees
from loopfoundry.source.trees import is_operation, is_statement, is_tree, levels, nodes, operation_at, path_of
from tests.helpers import draw_tree, odd_values, refused, seeded

LEAF = ("load", "a", 1, 0)
AT = ("at", "s", 1)


def chain(depth, leaf):
    """A tree of so many levels above a leaf."""
    for _ in range(depth):
        leaf = ("op", "f", leaf)
    return leaf


def second_levels(tree):
    return 1 + max([0] + [second_levels(part) for part in tree if isinstance(part, tuple)])


def second_nodes(tree):
    here = 0 if tree[0] == "at" else 1
    return here + sum(second_nodes(part) for part in tree if isinstance(part, tuple))


class TreesTest(unittest.TestCase):
    def test_leaves(self):
        for distance in range(4):
            self.assertIs(is_tree(("at", "abcdefgh", distance)), True)
        for distance in (-1, 4, True, False, None, "1"):
            self.assertIs(is_tree(("at", "a", distance)), False)
        for step, offset in ((0, 0), (-1, 5), (10**30 - 1, 1 - 10**30)):
            self.assertIs(is_tree(("load", "a", step, offset)), True)
        for step, offset in ((10**30, 0), (0, 10**30), (-(10**30), 0), (True, 0), (0, False), (None, 0), ("1", 0)):
            self.assertIs(is_tree(("load", "a", step, offset)), False)

    def test_operators(self):
        for many in range(4):
            self.assertIs(is_tree(("op", "f", *[LEAF] * many)), True)
        for value in (
            ("op", "f", *[LEAF] * 4),
            ("op",),
            ("op", "F"),
            ("op", "f", 1),
            ("op", "f", ("hole",)),
            ("op", "f", [LEAF]),
            ["op", "f"],
            ("OP", "f"),
            ("op", "f", ("set", "a", LEAF)),
            ("at", "abcdefghi", 0),
            ("at", "a"),
            ("at", "a", 1, 1),
            ("load", "a", 1),
            ("load", "a", 1, 2, 3),
        ):
            self.assertIs(is_tree(value), False, value)

    def test_levels(self):
        self.assertIs(is_tree(chain(3, LEAF)), True)
        self.assertIs(is_tree(chain(4, LEAF)), False)
        self.assertIs(is_tree(chain(3, AT)), True)
        self.assertIs(is_tree(chain(4, AT)), False)
        self.assertIs(is_tree(chain(3, ("op", "g"))), True)
        self.assertIs(is_tree(chain(4, ("op", "g"))), False)
        self.assertIs(is_tree(("op", "f", LEAF, AT, chain(3, LEAF))), False)
        self.assertEqual([levels(chain(depth, LEAF)) for depth in range(4)], [1, 2, 3, 4])
        self.assertEqual(levels(("op", "g")), 1)
        self.assertEqual(levels(AT), 1)
        self.assertEqual(levels(("op", "f", AT, chain(2, LEAF), LEAF)), 4)

    def test_nodes(self):
        self.assertEqual([nodes(AT), nodes(LEAF), nodes(("op", "g")), nodes(("op", "f", AT, LEAF, AT))], [0, 1, 1, 2])

    def test_drawn_trees(self):
        random = seeded(1)
        for _ in range(500):
            tree = draw_tree(random, random.randint(1, 4), ["a", "b"])
            self.assertIs(is_tree(tree), True)
            self.assertEqual(levels(tree), second_levels(tree))
            self.assertEqual(nodes(tree), second_nodes(tree))
            self.assertIs(is_statement(("set", "s", tree)), tree[0] != "at")
            self.assertIs(is_statement(("store", "s", "x", 1, 0, tree)), True)

    def test_statements(self):
        self.assertIs(is_statement(("set", "a", LEAF)), True)
        self.assertIs(is_statement(("store", "a", "a", -1, 0, AT)), True)
        self.assertIs(is_statement(("store", "a", "x", 10**30 - 1, 1 - 10**30, chain(3, LEAF))), True)
        # By itself a statement may read what no body has.
        self.assertIs(is_statement(("set", "a", ("op", "f", ("at", "a", 0)))), True)
        for value in (
            ("set", "a", AT),
            ("set", "A", LEAF),
            ("set", "a"),
            ("set", "a", LEAF, LEAF),
            ("set", "a", chain(4, LEAF)),
            ["set", "a", LEAF],
            ("put", "a", LEAF),
            ("put", "a", "x", 1, 0, LEAF),
            ("set", "a", "x", 1, 0, LEAF),
            ("store", "a", "x", 0, 0, LEAF),
            ("store", "a", "x", False, 0, LEAF),
            ("store", "a", "x", True, 0, LEAF),
            ("store", "a", "x", 1, True, LEAF),
            ("store", "a", "x", 10**30, 0, LEAF),
            ("store", "a", "x", 1, 10**30, LEAF),
            ("store", "a", "X", 1, 0, LEAF),
            ("store", "abcdefghi", "x", 1, 0, LEAF),
            ("store", "a", "x", 1, 0),
            ("store", "a", "x", 1, 0, LEAF, LEAF),
            ("store", "a", "x", 1, 0, chain(4, LEAF)),
            LEAF,
        ):
            self.assertIs(is_statement(value), False, value)

    def test_odd_values(self):
        for value in odd_values():
            self.assertIs(is_tree(value), False)
            self.assertIs(is_statement(value), False)
            self.assertIs(is_tree(("op", "f", value)), False)
            self.assertIs(is_tree(("op", value)), isinstance(value, str) and value == "a")
            self.assertIs(is_tree((value, "a", 1)), False)
            self.assertIs(is_tree(("at", "a", value)), type(value) is int and 0 <= value <= 3)
            self.assertIs(is_statement(("set", "a", value)), False)
            self.assertIs(is_statement((value, "a", LEAF)), False)
            is_number = type(value) is int and abs(value) < 10**30
            self.assertIs(is_statement(("store", "a", "x", value, 0, LEAF)), is_number and value != 0)
            self.assertIs(is_statement(("store", "a", "x", 1, value, LEAF)), is_number)
            refused(self, InvalidTree, levels, value)
            refused(self, InvalidTree, nodes, value)
        refused(self, InvalidTree, levels, ("set", "a", LEAF))
        refused(self, InvalidTree, nodes, ("store", "a", "x", 1, 0, LEAF))


class OperationsTest(unittest.TestCase):
    def test_there_and_back(self):
        for many in range(5):
            for path in product(range(3), repeat=many):
                text = ".".join(["mul", *map(str, path)])
                self.assertIs(is_operation(text), True)
                self.assertEqual(operation_at("mul", path), text)
                self.assertEqual(path_of(text), ("mul", path))
        self.assertEqual(operation_at("sum", ()), "sum")
        self.assertEqual(operation_at("put", (0, 1)), "put.0.1")

    def test_no_operations(self):
        for value in ("", "a.", ".0", "a.3", "a.-1", "a.00", "a.0.0.0.0.0", "A", "abcdefghi.0", "a 0", "a.0\n", "a..0"):
            self.assertIs(is_operation(value), False, value)
            refused(self, InvalidArgument, path_of, value)
        for value in odd_values():
            self.assertIs(is_operation(value), value in ("a", "a.0"))
            if not isinstance(value, str):
                refused(self, InvalidArgument, path_of, value)
            if value != "a":
                refused(self, InvalidArgument, operation_at, value, ())
            if not isinstance(value, tuple) or value not in ((), (0,), (0, 1), (0, 1, 2)):
                refused(self, InvalidArgument, operation_at, "a", value)
        for path in ((3,), (-1,), (True,), (0, False), (0,) * 5, [0], "0", ((0,),)):
            refused(self, InvalidArgument, operation_at, "a", path)

    def test_all_but_body_stands_here(self):
        self.assertFalse(hasattr(trees, "Body"))


if __name__ == "__main__":
    unittest.main()
