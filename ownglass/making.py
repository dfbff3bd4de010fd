"""Programs made out of programs."""

from ownglass.errors import BadInputs
from ownglass.programs import check_program, inputs_of

MOST_INPUTS = 8


def renamed(program, start):
    """Return the program with its functions called by the made names from the start on."""
    check_program(program)
    return _renamed_good(program, start)


def fill(program, value):
    """Return a program that does what the program does with the value as its first input."""
    many_inputs = inputs_of(program)
    if not 1 <= many_inputs <= MOST_INPUTS + 1:
        raise BadInputs(f"a program of {many_inputs} inputs cannot be filled")
    return filled(program, value)


def chosen(test, yes, no):
    """Return a program that does what yes does where test has a value other than (), else what no does."""
    programs = (test, yes, no)
    counts = [inputs_of(program) for program in programs]
    many_inputs = counts[0]
    if counts != [many_inputs, many_inputs, many_inputs] or many_inputs > MOST_INPUTS:
        raise BadInputs(f"programs of {counts} inputs cannot be chosen from")
    parameters = made_parameters(many_inputs)
    functions, mains = side_by_side(programs)
    calls = [(main, *parameters) for main in mains]
    body = ("if", *calls)
    return with_front(functions, parameters, body)


def composed(outer, inner):
    """Return a program that does what outer does on the value that inner has."""
    counts = [inputs_of(program) for program in (outer, inner)]
    if counts[0] != 1 or counts[1] > MOST_INPUTS:
        raise BadInputs(f"programs of {counts} inputs cannot be composed")
    parameters = made_parameters(counts[1])
    functions, mains = side_by_side((inner, outer))
    body = (mains[1], (mains[0], *parameters))
    return with_front(functions, parameters, body)


def made_name(number):
    """Return the made name of the function with the number."""
    return f"f{number}"


def made_parameters(count):
    """Return the list of the first so many made parameters."""
    return tuple([f"x{number}" for number in range(1, count + 1)])


def listing(expressions):
    """Return the expression that has the list of the values of the expressions."""
    expression = ("quote", ())
    for item in reversed(expressions):
        expression = ("join", item, expression)
    return expression


def filled(program, value):
    """Return what fill returns, for a good program of one input or more."""
    parameters = made_parameters(len(program[0][1]) - 1)
    body = (program[0][0], ("quote", value), *parameters)
    return with_front(program, parameters, body)


def side_by_side(programs):
    """Return the functions of good programs, renamed one behind the other, and the names of the main ones."""
    functions = []
    mains = []
    for program in programs:
        mains.append(made_name(len(functions)))
        functions.extend(_renamed_good(program, len(functions)))
    return tuple(functions), mains


def with_front(functions, parameters, body):
    """Return the program of the functions and, in front, a main one with the next made name."""
    return ((made_name(len(functions)), parameters, body), *functions)


def _renamed_good(program, start):
    """Return the good program with its functions called by the made names from the start on."""
    names = {function[0]: made_name(start + at) for at, function in enumerate(program)}
    functions = []
    for name, parameters, body in program:
        functions.append((names[name], parameters, _renamed_body(body, names)))
    return tuple(functions)


def _renamed_body(body, names):
    """Return the expression with its calls by the new names."""
    done = []
    for expression in reversed(_expressions_of(body)):
        if isinstance(expression, str) or expression[0] == "quote":
            done.append(expression)
        else:
            word = expression[0]
            start = len(done) + 1 - len(expression)
            parts = tuple(done[start:])
            del done[start:]
            done.append((names.get(word, word), *parts))
    return done[0]


def _expressions_of(body):
    """Return the expressions in the body, each ahead of its parts, the last part first."""
    expressions = []
    waiting = [body]
    while waiting:
        expression = waiting.pop()
        expressions.append(expression)
        if not isinstance(expression, str) and expression[0] != "quote":
            waiting.extend(expression[1:])
    return expressions
