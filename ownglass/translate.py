"""Programs translated into machine programs, and back."""

from ownglass.errors import BadInputs
from ownglass.making import MOST_INPUTS, listing, made_name, made_parameters
from ownglass.programs import check_program
from ownglass.routines import numbered
from ownglass.stacks import check_machine

# What stands in a plan of the instructions that are still to be written:
EXPRESSION = 0   # those of an expression
BRANCHES = 1     # that of an if, behind those of its test
INSTRUCTION = 2  # that of another list, behind those of its parts

# The words of expressions with parts that are instructions, too.
PLAIN_WORDS = ("same", "word", "head", "tail", "join")


def to_machine(program):
    """Return the machine program that does what the program does."""
    check_program(program)
    routines = []
    for name, parameters, body in program:
        # Routines that are still to be written, the next one last: that of the
        # function, and then those of the branches of ifs as they are met.
        waiting = [(name, (name,), body, (), [("slide", parameters)])]
        while waiting:
            routine, path, expression, depth, ending = waiting.pop()
            instructions, branches = _instructions_of(expression, path, depth, parameters)
            routines.append((routine, *instructions, *ending))
            waiting.extend(list(reversed(branches)))
    return tuple(routines)


def _instructions_of(expression, path, depth, parameters):
    """Return the list of an expression's instructions, and the list of the branches to which they go.

    A branch is a routine still to be written: its name, the path, the
    expression and the depth of a part of an if, and no more instructions.
    """
    instructions = []
    branches = []
    plan = [(EXPRESSION, expression, path, depth)]
    while plan:
        kind, what, at, below = plan.pop()
        if kind == INSTRUCTION:
            instructions.append(what)
        elif kind == BRANCHES:
            full, empty = _part_path(2, at), _part_path(3, at)
            instructions.append(("if", full, empty))
            branches.append((full, full, what[2], below, []))
            branches.append((empty, empty, what[3], below, []))
        elif isinstance(what, str):
            behind = parameters.index(what) + 1
            instructions.append(("copy", parameters[behind:] + below))
        elif what[0] == "quote":
            instructions.append(("push", what[1]))
        elif what[0] == "if":
            plan.append((BRANCHES, what, at, below))
            plan.append((EXPRESSION, what[1], _part_path(1, at), below))
        else:
            plan.append((INSTRUCTION, _instruction_behind_parts(what[0]), at, below))
            for number in range(len(what) - 1, 0, -1):
                deeper = below + ("a",) * (number - 1)
                plan.append((EXPRESSION, what[number], _part_path(number, at), deeper))
    return instructions, branches


def _part_path(number, path):
    """Return the path of the part with the number of the expression with the path."""
    return (f"p{number}", *path)


def _instruction_behind_parts(word):
    """Return the instruction that does what the first word of a list asks for with the values of the parts."""
    return (word,) if word in PLAIN_WORDS else ("call", word)


def from_machine(program, inputs):
    """Return the program with so many inputs that does what the machine program does."""
    check_machine(program)
    if not 0 <= inputs <= MOST_INPUTS:
        raise BadInputs(f"no program of {inputs} inputs is made of a machine program")
    parameters = made_parameters(inputs)
    stack = listing(list(reversed(parameters)))
    functions = [(made_name(0), parameters, ("head", (made_name(1), stack)))]
    # The names of the functions for instructions, by the instructions. These
    # have only words and numbers, as that of a push needs no function.
    helpers = {}
    for number, routine in enumerate(numbered(program)):
        body = "s"
        for instruction in routine:
            body = _put_around(body, instruction, helpers, len(program))
        functions.append((made_name(number + 1), ("s",), body))
    for instruction, name in helpers.items():
        functions.append((name, ("s",), _helper_body(instruction)))
    return tuple(functions)


def _put_around(expression, instruction, helpers, many_routines):
    """Return the expression for the stack behind an instruction, and name the function for it if it is new."""
    word = instruction[0]
    if word == "push":
        return ("join", ("quote", instruction[1]), expression)
    if word == "call":
        return (made_name(instruction[1] + 1), expression)
    if instruction not in helpers:
        helpers[instruction] = made_name(many_routines + 1 + len(helpers))
    return (helpers[instruction], expression)


def _helper_body(instruction):
    """Return the body of the function for an instruction: what becomes of the stack s."""
    word, *numbers = instruction
    if word == "copy":
        return ("join", ("head", tails_of("s", numbers[0])), "s")
    if word == "slide":
        return ("join", ("head", "s"), tails_of("s", numbers[0] + 1))
    if word == "if":
        calls = [(made_name(number + 1), ("tail", "s")) for number in numbers]
        return ("if", ("head", "s"), *calls)
    if word in ("same", "join"):
        return ("join", (word, ("head", ("tail", "s")), ("head", "s")), tails_of("s", 2))
    return ("join", (word, ("head", "s")), ("tail", "s"))


def tails_of(expression, count):
    """Return the expression in so many tails."""
    for _ in range(count):
        expression = ("tail", expression)
    return expression
