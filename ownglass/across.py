"""Programs of both languages that know their own text, and each other's."""

from ownglass.claims import says_yes, spinning_if
from ownglass.errors import BadInputs
from ownglass.machine import NO_LIMIT
from ownglass.making import MOST_INPUTS, listing, made_parameters, side_by_side, with_front
from ownglass.never import watch_program
from ownglass.own import know_own, ring
from ownglass.programs import inputs_of
from ownglass.stacks import run_machine
from ownglass.translate import from_machine, tails_of, to_machine
from ownglass.translator import translator

MOST_PROGRAMS = 6


def know_own_machine(program):
    """Return a machine program that does what the program does with the machine program's own text as first input."""
    return to_machine(_with_own_machine(program))


def ring_across(programs, kinds):
    """Return a list of programs, each of which does what the handed one does with the list of all their texts.

    Those whose kind is "machine" are machine programs.
    """
    counts = [inputs_of(program) for program in programs]
    if not 1 <= len(counts) <= MOST_PROGRAMS or len(kinds) != len(counts):
        raise BadInputs(f"{len(counts)} programs and {len(kinds)} words make no ring")
    if not all([kind in ("plain", "machine") for kind in kinds]):
        raise BadInputs("a word is neither plain nor machine")
    many_inputs = counts[0]
    if counts != [many_inputs for _ in counts] or not 1 <= many_inputs <= MOST_INPUTS:
        raise BadInputs(f"programs of {counts} inputs make no ring")
    made = ring([_with_translated_texts(program, kinds) for program in programs])
    return [to_machine(one) if kind == "machine" else one for one, kind in zip(made, kinds)]


def refute_machine(claim, limit):
    """Return the answer to a machine program that tells of one and a value whether that one ends on the value."""
    program = _with_own_machine(spinning_if(from_machine(claim, 2), ["s", "x1"]))
    machine = to_machine(program)
    run = run_machine(claim, [machine, ()], limit)
    if run.kind == "tired":
        return ("silent", machine)
    if says_yes(run):
        return ("wrong", machine, "ends", watch_program(program, [()], NO_LIMIT)[1])
    return ("wrong", machine, "never", run_machine(machine, [()], NO_LIMIT).steps)


def _with_own_machine(program):
    """Return the program that does what the program does with the text of the returned one's machine program."""
    many_inputs = inputs_of(program)
    if not 1 <= many_inputs <= MOST_INPUTS + 1:
        raise BadInputs(f"a program of {many_inputs} inputs cannot be handed its own text")
    parameters = made_parameters(many_inputs - 1)
    functions, mains = side_by_side([translator(), program])
    body = (mains[1], (mains[0], "s"), *parameters)
    return know_own(with_front(functions, ("s", *parameters), body))


def _with_translated_texts(program, kinds):
    """Return the program that does what the program does with a list of texts, those of machine kind translated."""
    parameters = made_parameters(len(program[0][1]))
    functions, mains = side_by_side([translator(), program])
    texts = []
    for at, kind in enumerate(kinds):
        text = ("head", tails_of("x1", at))
        texts.append((mains[0], text) if kind == "machine" else text)
    body = (mains[1], listing(texts), *parameters[1:])
    return with_front(functions, parameters, body)
