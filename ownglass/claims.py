"""What claims are asked about, and what they say to it.

For each kind of claim a program is made on which it is wrong, and the claim is
asked a question: the list of its inputs, with that program ahead.
"""

from ownglass.codes import Code
from ownglass.courses import Course
from ownglass.errors import BadInputs
from ownglass.machine import run_so_far
from ownglass.making import made_name, side_by_side, with_front
from ownglass.nodes import EMPTY, Nodes
from ownglass.own import know_own, mirror
from ownglass.programs import inputs_of
from ownglass.texts import same_values

SPIN = (("spin", ("x",), ("spin", "x")),)
DONE = (("done", ("x",), ("quote", "done")),)
OTHER = (("other", ("x",), ("quote", "other")),)

# The steps of the program on which a claim about steps is asked, besides those of the claim.
STEPS_BESIDE = 26


def check_claim(claim, many_inputs):
    """Raise what is wrong with a claim of so many inputs."""
    found = inputs_of(claim)
    if found != many_inputs:
        raise BadInputs(f"the claim has {found} inputs, and {many_inputs} are needed")


def _question_on_ends(claim):
    """Return the program that a claim about ends is wrong on, and the question to ask it."""
    check_claim(claim, 2)
    program = know_own(spinning_if(claim, ["s", "x1"]))
    return program, [program, ()]


def _question_on_self(claim):
    """Return the program that a claim about own texts is wrong on, and the question to ask it."""
    check_claim(claim, 1)
    functions, mains = side_by_side([claim])
    body = ("if", (mains[0], "s"), ("quote", ()), "s")
    program = know_own(with_front(functions, ("s", "x1"), body))
    return program, [program]


def _question_on_alike(claim):
    """Return the program that a claim about programs alike is wrong on, and the question to ask it."""
    check_claim(claim, 2)
    functions, mains = side_by_side([claim])
    judge = with_front(functions, ("s",), (mains[0], "s", ("quote", DONE)))
    program = mirror(judge, DONE, OTHER)
    return program, [program, DONE]


def _question_on_best(claim):
    """Return the program that a claim about best programs is wrong on, and the question to ask it."""
    check_claim(claim, 1)
    functions, mains = side_by_side([claim])
    judge = with_front(functions, ("s",), ("same", (mains[0], "s"), ("quote", SPIN)))
    program = mirror(judge, SPIN, DONE)
    return program, [program]


def _question_on_steps(claim):
    """Return the program that a claim about bounds, or about sure ends, is wrong on, and the question to ask it."""
    check_claim(claim, 1)
    program = know_own(spinning_if(claim, ["s"]))
    return program, [program]


QUESTIONS = {
    "ends": _question_on_ends,
    "self": _question_on_self,
    "alike": _question_on_alike,
    "best": _question_on_best,
    "within": _question_on_steps,
    "sure": _question_on_steps,
}


def question_on(kind, claim):
    """Return the program that a claim of the kind is wrong on, and the question to ask it."""
    make = QUESTIONS[kind]
    return make(claim)


def program_on_grants(claim):
    """Return the program that a claim about grants is wrong on."""
    check_claim(claim, 2)
    functions, mains = side_by_side([claim])
    asker = made_name(len(functions))
    again = (asker, "s", ("join", ("quote", "a"), "n"))
    body = ("if", (mains[0], "s", "n"), ("quote", "yes"), again)
    functions = (*functions, (asker, ("s", "n"), body))
    return know_own(with_front(functions, ("s",), (asker, "s", ("quote", ()))))


def question_on_grants(program, number):
    """Return the question about the grant with the number, counted from 0."""
    return [program, tuple(["a" for _ in range(number)])]


def spinning_if(claim, parts):
    """Return the program of s and x1 that never ends if the claim says yes to the parts, and ends otherwise."""
    functions, mains = side_by_side([claim, SPIN])
    body = ("if", (mains[0], *parts), (mains[1], "x1"), ("quote", "done"))
    return with_front(functions, ("s", "x1"), body)


def says_yes(run):
    """Return whether a claim says yes by a run that has ended."""
    return run.kind == "great" or run.value != ()


def gives_spin(run):
    """Return whether a claim gives the program spin by a run that has ended."""
    return run.kind == "done" and same_values(run.value, SPIN)


def first_reply(claim, program, most, limit):
    """Return the number of the first question about grants to which the claim does not say no, and the Run.

    Return None if it says no to all of them.
    """
    # One store for all questions, so that the program is not gone through for each.
    nodes = Nodes()
    code = Code(claim, nodes)
    about = nodes.number_of(program)
    word = nodes.number_of("a")
    grant = EMPTY
    for number in range(most):
        course = Course(code, 0, [about, grant])
        course.go_on(limit)
        run = run_so_far(course, limit)
        if run.kind == "tired" or says_yes(run):
            return number, run
        grant = nodes.joined(word, grant)
    return None
