"""Machine programs, which are run with a stack."""

from ownglass.errors import BadProgram
from ownglass.machine import Run, run_at_end
from ownglass.nodes import EMPTY, YES, Nodes
from ownglass.routines import numbered

# How many items an instruction with each word has.
INSTRUCTIONS = {
    "push": 2, "copy": 2, "slide": 2, "same": 1, "word": 1, "head": 1, "tail": 1, "join": 1, "call": 2, "if": 3,
}

# The kinds of rows, which a run goes along one after the other: (kind, what, step),
# step being 1 for an instruction.
PUSH = 0   # put the node on top
COPY = 1   # put on top the value that has so many above it
SLIDE = 2  # take out so many values beneath the top one
LOOK = 3   # put what the table has for the top value in its place
SAME = 4   # put whether the two top values are the same in their place
JOIN = 5   # put the lower of the two top values, joined onto the top one, in their place
CALL = 6   # go to the start
TEST = 7   # take the top value off; go to the first start, or to the second one if it is ()
BACK = 8   # go on behind the call


def check_machine(value):
    """Return None if the value is a right machine program, otherwise raise BadProgram."""
    if not isinstance(value, tuple) or not value:
        raise BadProgram(0)
    nodes = Nodes()
    # A wrong routine has a name, too, if it has a first item.
    names = {nodes.number_of(item[0]): True for item in value if isinstance(item, tuple) and item}
    earlier = set()
    for number, routine in enumerate(value):
        if not isinstance(routine, tuple) or not routine:
            raise BadProgram(number)
        name = nodes.number_of(routine[0])
        if name in earlier:
            raise BadProgram(number)
        earlier.add(name)
        for instruction in routine[1:]:
            if not _is_right_instruction(instruction, names, nodes):
                raise BadProgram(number)


def run_machine(program, inputs, limit):
    """Return the Run of the machine program on the inputs, with the limit of steps."""
    check_machine(program)
    nodes = Nodes()
    stack = [nodes.number_of(value) for value in inputs]
    steps = _go_along(_rows_of(program, nodes), nodes, stack, limit)
    if steps > limit:
        return Run("tired", None, limit)
    return run_at_end(nodes, stack[-1] if stack else EMPTY, steps)


def _is_right_instruction(instruction, names, nodes):
    """Return whether the value is an instruction of a program with routines of these names."""
    if not isinstance(instruction, tuple) or not instruction or not isinstance(instruction[0], str):
        return False
    word, *parts = instruction
    if word not in INSTRUCTIONS or len(instruction) != INSTRUCTIONS[word]:
        return False
    if word in ("copy", "slide"):
        return isinstance(parts[0], tuple)
    if word in ("call", "if"):
        return all([nodes.number_of(name) in names for name in parts])
    return True


def _rows_of(program, nodes):
    """Return the rows of a right machine program; a run begins with the first one."""
    routines = numbered(program)
    starts = []
    start = 0
    for routine in routines:
        starts.append(start)
        start += len(routine) + 1
    rows = []
    for routine in routines:
        rows.extend([_row_of(instruction, starts, nodes) for instruction in routine])
        rows.append((BACK, 0, 0))
    return rows


def _row_of(instruction, starts, nodes):
    """Return the row of an instruction with numbers."""
    word, *parts = instruction
    if word == "push":
        return (PUSH, nodes.number_of(parts[0]), 1)
    if word == "call":
        return (CALL, starts[parts[0]], 1)
    if word == "if":
        return (TEST, (starts[parts[0]], starts[parts[1]]), 1)
    if word in ("copy", "slide"):
        return (COPY if word == "copy" else SLIDE, parts[0], 1)
    if word in ("same", "join"):
        return (SAME if word == "same" else JOIN, 0, 1)
    tables = {"word": nodes.wordness, "head": nodes.heads, "tail": nodes.tails}
    return (LOOK, tables[word], 1)


def _go_along(rows, nodes, stack, limit):
    """Carry out the rows with the stack; return the steps, which are more than the limit if the run is tired."""
    # The rows to go on with behind the open calls. A list, and no nested
    # calls of Python: there may be as many open as there are steps.
    behind = []
    at = 0
    steps = 0
    while steps <= limit:
        kind, what, step = rows[at]
        at += 1
        steps += step
        if kind == COPY:
            stack.append(stack[-1 - what] if what < len(stack) else EMPTY)
        elif kind == PUSH:
            stack.append(what)
        elif kind == CALL:
            behind.append(at)
            at = what
        elif kind == BACK:
            if not behind:
                break
            at = behind.pop()
        elif kind == TEST:
            behind.append(at)
            full, empty = what
            at = empty if _taken(stack) == EMPTY else full
        else:
            top = _taken(stack)
            if kind == LOOK:
                top = what[top]
            elif kind == SLIDE:
                del stack[max(0, len(stack) - what):]
            elif kind == SAME:
                top = YES if _taken(stack) == top else EMPTY
            else:
                top = nodes.joined(_taken(stack), top)
            stack.append(top)
    return steps


def _taken(stack):
    """Take the top value off the stack and return it; below the last one stands ()."""
    return stack.pop() if stack else EMPTY
