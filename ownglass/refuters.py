"""Answers to claims: a program on which the claim is wrong, or about which it is silent."""

from ownglass.claims import STEPS_BESIDE, check_claim, gives_spin, question_on, says_yes
from ownglass.claims import first_reply, program_on_grants, question_on_grants
from ownglass.machine import NO_LIMIT, run_program
from ownglass.making import side_by_side, with_front
from ownglass.never import watch_program
from ownglass.universal import universal


def refute_ends(claim, limit):
    """Return the answer to a claim that tells of a program and a value whether it ends on the value."""
    program, question = question_on("ends", claim)
    run = run_program(claim, question, limit)
    if run.kind == "tired":
        return ("silent", program, _paper_within(claim, question, limit))
    if says_yes(run):
        return ("wrong", program, "ends", _paper_of(program))
    return ("wrong", program, "never", _run_of(program).steps)


def refute_self(claim, limit):
    """Return the answer to a claim that tells of a program whether it gives its own text."""
    program, question = question_on("self", claim)
    run = run_program(claim, question, limit)
    if run.kind == "tired":
        return ("silent", program, _paper_within(claim, question, limit))
    word = "own" if says_yes(run) else "other"
    return ("wrong", program, word, _run_of(program).value)


def refute_alike(claim, limit):
    """Return the answer to a claim that tells of two programs whether they do the same."""
    program, question = question_on("alike", claim)
    run = run_program(claim, question, limit)
    if run.kind == "tired":
        return ("silent", program, _paper_within(claim, question, limit))
    word = "alike" if says_yes(run) else "unlike"
    return ("wrong", program, word, _run_of(program).value)


def refute_best(claim, limit):
    """Return the answer to a claim that gives for a program a best one that does the same."""
    program, question = question_on("best", claim)
    run = run_program(claim, question, limit)
    if run.kind == "tired":
        return ("silent", program, _paper_within(claim, question, limit))
    if gives_spin(run):
        return ("wrong", program, "spin", _run_of(program).steps)
    return ("wrong", program, "other", _paper_of(program))


def refute_list(lister):
    """Return a program that is none of those that the lister gives."""
    check_claim(lister, 1)
    functions, mains = side_by_side([universal(), lister])
    value = (mains[0], (mains[1], "x1"), ("join", "x1", ("quote", ())))
    return with_front(functions, ("x1",), ("join", ("quote", "x"), value))


def refute_within(claim, bound):
    """Return the answer to a claim that tells of a program whether it ends within the bound."""
    program, question = question_on("within", claim)
    run = run_program(claim, question, max(0, bound - STEPS_BESIDE))
    if run.kind == "tired":
        return ("slow", program)
    if says_yes(run):
        return ("wrong", program, "within", _paper_of(program))
    return ("wrong", program, "not within", _run_of(program).steps)


def refute_sure(claim, limit):
    """Return the answer to a claim that says yes only to programs that surely end."""
    program, question = question_on("sure", claim)
    run = run_program(claim, question, limit)
    if run.kind == "tired":
        return ("silent", program, _paper_within(claim, question, limit))
    if says_yes(run):
        return ("wrong", program, _paper_of(program))
    return ("missed", program, _run_of(program).steps)


def refute_grants(claim, most, limit):
    """Return the answer to a claim that grants, by one of a row of papers, that a program never ends."""
    program = program_on_grants(claim)
    reply = first_reply(claim, program, most, limit)
    if reply is None:
        return ("kept", program)
    number, run = reply
    if run.kind == "tired":
        question = question_on_grants(program, number)
        return ("silent", program, number, _paper_within(claim, question, limit))
    return ("wrong", program, number, run_program(program, [], NO_LIMIT).steps)


def _paper_within(claim, question, limit):
    """Return the paper that the claim's run never ends, or None if it has none so early."""
    told = watch_program(claim, question, limit)
    return told[1] if told[0] == "never" else None


def _paper_of(program):
    """Return the paper that the program never ends on ()."""
    return watch_program(program, [()], NO_LIMIT)[1]


def _run_of(program):
    """Return the Run of the program on ()."""
    return run_program(program, [()], NO_LIMIT)
