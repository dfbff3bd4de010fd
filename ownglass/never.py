"""Papers that a run never ends: two calls alike, the first of them still open."""

from ownglass.courses import Course
from ownglass.machine import course_of, run_so_far

MOST_STEP = 10000000


def watch_program(program, inputs, limit):
    """Return how the run goes within the limit, with a paper if it never ends and has one so early."""
    course = course_of(program, inputs)
    paper = _first_paper(course, limit)
    if paper is not None:
        return ("never", paper)
    run = run_so_far(course, limit)
    if run.kind == "done":
        return ("done", run.value, run.steps)
    if run.kind == "great":
        return ("great", run.steps)
    return ("tired",)


def _first_paper(course, limit):
    """Go along the run up to the limit; return the paper with the least second number, or None."""
    # The open calls, and the step at which each began. No two of them are
    # alike, as the second one would have made a paper.
    beginnings = {}
    calls = []
    while course.called is not None and course.steps < limit:
        while len(calls) > course.many_open():
            del beginnings[calls.pop()]
        call = course.next_call()
        step = course.steps + 1
        if call in beginnings:
            return (beginnings[call], step)
        beginnings[call] = step
        calls.append(call)
        course.go_on(step)
    return None


def check_never(program, inputs, paper):
    """Return True if the paper tells that the run never ends, otherwise False."""
    course = course_of(program, inputs)
    first, second = paper
    if not 1 <= first < second <= MOST_STEP:
        return False
    call = _call_at(course, first)
    if call is None:
        return False
    # While the call is open, the run is that of its function on its inputs.
    within = Course(course.code, call[0], call[1:])
    return _call_at(within, second - first + 1) == call


def _call_at(course, step):
    """Go along the run; return the call that begins at the step, or None if none does."""
    course.go_on(step - 1)
    if course.called is None or course.steps != step - 1:
        return None
    return course.next_call()
