"""Programs, and which of them are good."""

from ownglass.errors import BadProgram

# How many parts stand behind each special word.
SPECIAL_WORDS = {"quote": 1, "if": 3, "same": 2, "word": 1, "head": 1, "tail": 1, "join": 2}
MOST_PARAMETERS = 12


def check_program(value):
    """Return None if the value is a good program, otherwise raise BadProgram."""
    if not isinstance(value, tuple) or not value:
        raise BadProgram(0)
    called = _called_functions(value)
    earlier_names = set()
    for number, function in enumerate(value):
        if not _is_good_function(function, called, len(value)):
            raise BadProgram(number)
        if function[0] in earlier_names:
            raise BadProgram(number)
        earlier_names.add(function[0])


def inputs_of(program):
    """Return the number of inputs of the program."""
    check_program(program)
    return len(program[0][1])


def names_of(program):
    """Return the list of the names of the program's functions, in order."""
    check_program(program)
    return [function[0] for function in program]


def _called_functions(program):
    """Return for each name that can be called the number of parts that a call has.

    What is not good otherwise is called, too: a call is judged by the first
    item that looks like a function of its name.
    """
    called = {}
    for item in program:
        if _looks_like_function(item) and item[0] not in called:
            called[item[0]] = len(item[1])
    return called


def _looks_like_function(item):
    """Return whether the item is a list of a word, a list and anything."""
    if not isinstance(item, tuple) or len(item) != 3:
        return False
    return isinstance(item[0], str) and isinstance(item[1], tuple)


def _is_good_function(function, called, many_items):
    """Return whether a function is good, but for its name being used earlier."""
    if not _looks_like_function(function):
        return False
    name, parameters, body = function
    if not _is_good_name(name, many_items) or not _are_good_parameters(parameters):
        return False
    return _is_good_body(body, parameters, called)


def _is_good_name(name, many_items):
    """Return whether a word may name a function of a program of so many items."""
    if name in SPECIAL_WORDS:
        return False
    digits = name[1:]
    if not name.startswith("f") or not digits.isdigit():
        return True
    number = int(digits)
    return digits == str(number) and number < many_items


def _are_good_parameters(parameters):
    """Return whether the items of the list may be the parameters of a function."""
    if len(parameters) > MOST_PARAMETERS:
        return False
    earlier = set()
    for parameter in parameters:
        if not isinstance(parameter, str) or parameter in SPECIAL_WORDS or parameter in earlier:
            return False
        earlier.add(parameter)
    return True


def _is_good_body(body, parameters, called):
    """Return whether the value is a good expression of a function with these parameters."""
    # A list of what is still to be judged, so that deep bodies cost no recursion.
    waiting = [body]
    while waiting:
        part = waiting.pop()
        if isinstance(part, str):
            if part not in parameters:
                return False
        elif not _has_right_parts(part, called):
            return False
        elif part[0] != "quote":
            waiting.extend(part[1:])
    return True


def _has_right_parts(expression, called):
    """Return whether the list has as many parts as its first word asks for."""
    if not expression or not isinstance(expression[0], str):
        return False
    word = expression[0]
    many_parts = len(expression) - 1
    if word in SPECIAL_WORDS:
        return many_parts == SPECIAL_WORDS[word]
    return word in called and many_parts == called[word]
