"""Bodies with named and inlined trees, and jobs with merged operations."""

from loopfoundry.base.numbers import check_known, is_name
from loopfoundry.errors import InvalidArgument
from loopfoundry.jobs.jobs import Job
from loopfoundry.jobs.orders import do_meet_in_a_round
from loopfoundry.jobs.starts import check_job
from loopfoundry.machine.shapes import does_fit, walked_shape
from loopfoundry.memory.flows import check_body, flows
from loopfoundry.source.bodies import Body, with_changed_leaves
from loopfoundry.source.trees import path_of, text_at, walked_statement


def check_naming(body, operation, name):
    """Raise an error unless the tree at an operation can be named so."""
    check_body(body)
    if not isinstance(operation, str) or operation not in body.operations or operation in body:
        raise InvalidArgument("no operation, or a root")
    if not is_name(name) or name in body:
        raise InvalidArgument("no name, or that of a statement")


def named(body, operation, name):
    """The body in which the tree at an operation is named."""
    check_naming(body, operation, name)
    owner, path = path_of(operation)
    rows = []
    for statement in body.statements:
        if statement[1] == owner:
            rows.append(("set", name, body.tree(operation)))
            rows.append(with_tree_at(statement, path, ("at", name, 0)))
        else:
            rows.append(statement)
    return Body.of(tuple(rows))


def with_tree_at(statement, path, tree):
    """The statement with another tree at a path, which is not that of the root."""
    if statement[0] == "store":
        return (*statement[:5], with_tree_below(statement[5], path[1:], tree))
    return (*statement[:2], with_tree_below(statement[2], path, tree))


def with_tree_below(tree, path, new):
    """The tree with another tree at a path in it."""
    if path == ():
        return new
    at = 2 + path[0]
    return (*tree[:at], with_tree_below(tree[at], path[1:], new), *tree[at + 1:])


def named_operation(body, operation, name, other):
    """The operation of the body with a named tree at the node of another operation of the body."""
    check_naming(body, operation, name)
    if not isinstance(other, str) or other not in body.operations:
        raise InvalidArgument("no operation of the body")
    (owner, path), (other_owner, other_path) = path_of(operation), path_of(other)
    if owner == other_owner and other_path[:len(path)] == path:
        return text_at(name, other_path[len(path):])
    return other


def inlined(body, name):
    """The body in which a "set" statement is inlined."""
    return inlined_into(body, name)[0]


def inlined_into(body, name):
    """The body in which a "set" statement is inlined, and the name of the statement that read it."""
    check_body(body)
    check_known(name, body.scalars)
    leaves = [(row[1], node) for row in body.statements for _, node in walked_statement(row)]
    readers = [(reader, node[2]) for reader, node in leaves if node[0] == "at" and node[1] == name]
    if len(readers) != 1 or readers[0][1] != 0:
        raise InvalidArgument("not read just once, with the distance 0")
    tree = body[name][2]
    rows = [row for row in body.statements if row[1] != name]
    changed = [with_changed_leaves(row, lambda leaf: tree if leaf == ("at", name, 0) else leaf) for row in rows]
    return (Body.of(tuple(changed)), readers[0][0])


def keeps_findings(body, name):
    """Whether all loads still find the same if a "set" statement is inlined."""
    _, reader = inlined_into(body, name)
    between = body.names[body.names.index(name) + 1:body.names.index(reader)]
    stores = [row for row in body.stores if row[0] in between]
    inner = [row for row in body.loads if path_of(row[0])[0] == name]
    for _, array, *place in stores:
        for _, other_array, *other in inner:
            if array == other_array and do_meet_in_a_round(tuple(place), tuple(other)):
                return False
    return True


def merged(job, operation, pattern):
    """The job in which an operation is merged into the one above it, which gets this pattern."""
    check_merge(job, operation, pattern)
    cover = {text: name for text, name in job.cover.items() if text != operation}
    cover[job.above(operation)] = pattern
    return Job(job.body, job.machine, cover)


def check_merge(job, operation, pattern):
    """Raise an error unless a pattern covers just what an operation and the one above it cover."""
    check_job(job)
    if operation not in job or job.above(operation) is None:
        raise InvalidArgument("no operation of the job, or a root")
    check_known(pattern, job.machine.names)
    outer = job.above(operation)
    both = covered(job, outer, job[outer]) + covered(job, operation, job[operation])
    fits_there = does_fit(job.machine.pattern(pattern)[1], job.body.tree(outer))
    if not fits_there or sorted(covered(job, outer, pattern)) != sorted(both):
        raise InvalidArgument("the pattern does not cover just what both cover")


def covered(job, operation, pattern):
    """The texts of the working nodes that a pattern covers at an operation."""
    name, path = path_of(operation)
    parts = walked_shape(job.machine.pattern(pattern)[1], ())
    return [text_at(name, path + below) for below, part in parts if part[0] != "hole"]


def is_easy_merge(job, operation, pattern):
    """Whether starts that fit, and plans, stay such if the operation is merged."""
    check_merge(job, operation, pattern)
    outer = job.above(operation)
    _, _, ticks, _, uses = job.machine.pattern(pattern)
    if ticks > job.ticks(outer) or (outer not in job.valued and ticks != job.ticks(outer)):
        return False
    if not all([use in job.uses(outer) for use in uses]):
        return False
    inner = job.loaded(operation)
    antis = [row for row in flows(job.body) if row[0] == "anti" and row[2] in inner]
    return all([row[1] == outer for row in antis])
