"""Runs of programs."""

from ownglass.codes import Code
from ownglass.courses import Course
from ownglass.errors import BadInputs
from ownglass.nodes import Nodes
from ownglass.programs import inputs_of

# No run comes to so many steps.
NO_LIMIT = 1000000000000


class Run:
    """How a run went: kind is "done", "great" or "tired"; value is None unless it is done."""

    def __init__(self, kind, value, steps):
        self.kind = kind
        self.value = value
        self.steps = steps


def run_program(program, inputs, limit):
    """Return the Run of the program on the inputs, with the limit of steps."""
    course = course_of(program, inputs)
    course.go_on(limit)
    return run_so_far(course, limit)


def course_of(program, inputs):
    """Return the run of the program on the inputs, not yet begun; raise what is wrong with them."""
    many_inputs = inputs_of(program)
    if len(inputs) != many_inputs:
        raise BadInputs(f"the program has {many_inputs} inputs, and is given {len(inputs)}")
    nodes = Nodes()
    code = Code(program, nodes)
    return Course(code, 0, [nodes.number_of(value) for value in inputs])


def run_so_far(course, limit):
    """Return the Run of a course that has been gone along up to the limit."""
    if course.called is not None or course.steps > limit:
        return Run("tired", None, limit)
    return run_at_end(course.code.nodes, course.stack[-1], course.steps)


def run_at_end(nodes, number, steps):
    """Return the Run that has ended with the value that has the number."""
    if nodes.is_great(number):
        return Run("great", None, steps)
    return Run("done", nodes.value_of(number), steps)
