"""Papers that a program surely ends: one parameter of each function, of which each call gets a part."""

from ownglass.programs import SPECIAL_WORDS, check_program
from ownglass.rings import ring_numbers

# In place of a parameter's number, for what is no part of a parameter.
NONE_OF_THEM = -1


def sure_paper(program):
    """Return the least paper that the program surely ends, or None if there is none."""
    check_program(program)
    calls_of = _calls_of_each(program)
    paper = [0 for _ in program]
    decided = [not calls for calls in calls_of]
    for number, function in enumerate(program):
        if not decided[number]:
            # The parameter of one function determines those of its ring, so
            # the least one of the first function makes the paper least.
            found = _least_of_ring(number, len(function[1]), calls_of)
            if found is None:
                return None
            for other, parameter in found.items():
                paper[other] = parameter
                decided[other] = True
    return tuple(paper)


def check_sure(program, paper):
    """Return True if the paper tells that the program surely ends, otherwise False."""
    check_program(program)
    if len(paper) != len(program):
        return False
    calls_of = _calls_of_each(program)
    for callee, calls in enumerate(calls_of):
        bound = len(program[callee][1]) if calls else 1
        if not 0 <= paper[callee] < bound:
            return False
    for callee, calls in enumerate(calls_of):
        for caller, sources in calls:
            if sources[paper[callee]] != paper[caller]:
                return False
    return True


def _least_of_ring(function, many_parameters, calls_of):
    """Return the parameter of each function of the ring with the least one for this function, or None."""
    for parameter in range(many_parameters):
        found = _ring_with(function, parameter, calls_of)
        if found is not None:
            return found
    return None


def _ring_with(function, parameter, calls_of):
    """Return the parameter of each function of the ring if this function has this one; None if it cannot."""
    found = {function: parameter}
    waiting = [function]
    while waiting:
        callee = waiting.pop()
        for caller, sources in calls_of[callee]:
            source = sources[found[callee]]
            if source == NONE_OF_THEM:
                return None
            if caller not in found:
                found[caller] = source
                waiting.append(caller)
            elif found[caller] != source:
                return None
    return found


def _calls_of_each(program):
    """Return for each function the calls of it in the functions that it belongs together with.

    A call is the number of the function that it stands in, and for each part
    the number of the parameter that the part is a smaller part of.
    """
    numbers = {function[0]: number for number, function in enumerate(program)}
    calls_in = []
    for function in program:
        calls_in.append([(numbers[name], sources) for name, sources in _calls_in(function)])
    rings = ring_numbers([[callee for callee, _ in calls] for calls in calls_in])
    calls_of = [[] for _ in program]
    for caller, calls in enumerate(calls_in):
        for callee, sources in calls:
            if rings[callee] == rings[caller]:
                calls_of[callee].append((caller, sources))
    return calls_of


def _calls_in(function):
    """Return the calls in the function's body: for each its name, and the sources of its parts."""
    _, parameters, body = function
    calls = []
    # The expressions still to be looked at, and the parameters that each is guarded for.
    waiting = [(body, ())]
    while waiting:
        expression, guards = waiting.pop()
        if isinstance(expression, str) or expression[0] == "quote":
            continue
        word, *parts = expression
        if word not in SPECIAL_WORDS:
            calls.append((word, tuple([_source_of(part, parameters, guards) for part in parts])))
        for at, part in enumerate(parts):
            if word == "if" and at == 1:
                waiting.append((part, _with_guard(guards, parts[0])))
            else:
                waiting.append((part, guards))
    return calls


def _with_guard(guards, test):
    """Return the parameters that the first part behind the test is guarded for."""
    if isinstance(test, str) and test not in guards:
        return (*guards, test)
    return guards


def _source_of(part, parameters, guards):
    """Return the number of the parameter that the expression is a part of, if it is guarded for that one."""
    inside = part
    while not isinstance(inside, str):
        if inside[0] != "head" and inside[0] != "tail":
            return NONE_OF_THEM
        inside = inside[1]
    if isinstance(part, str) or inside not in guards:
        return NONE_OF_THEM
    return parameters.index(inside)
