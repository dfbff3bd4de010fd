"""Programs that know their own text."""

from ownglass.errors import BadInputs
from ownglass.making import MOST_INPUTS, fill, filled, listing, made_name, made_parameters, side_by_side, with_front
from ownglass.programs import inputs_of

MOST_PROGRAMS = 12


def know_own(program):
    """Return a program that does what the program does with the text of the returned one as its first input."""
    many_inputs = inputs_of(program)
    if not 1 <= many_inputs <= MOST_INPUTS + 1:
        raise BadInputs(f"a program of {many_inputs} inputs cannot be handed its own text")
    parameters = made_parameters(many_inputs - 1)
    functions, mains = side_by_side([program])
    body = (mains[0], _text_of_filled(len(functions), parameters), *parameters)
    reader = with_front(functions, ("s", *parameters), body)
    return fill(reader, reader)


def mirror(judge, no, yes):
    """Return a program that does what yes does if the judge says yes to the returned one, else what no does."""
    programs = (judge, no, yes)
    counts = [inputs_of(program) for program in programs]
    if counts[0] != 1 or counts[1] != counts[2] or counts[1] > MOST_INPUTS:
        raise BadInputs(f"programs of {counts} inputs make no mirror")
    parameters = made_parameters(counts[1])
    functions, mains = side_by_side(programs)
    body = ("if", (mains[0], "s"), (mains[2], *parameters), (mains[1], *parameters))
    return know_own(with_front(functions, ("s", *parameters), body))


def ring(programs):
    """Return a list of programs, each of which does what the handed one does with the list of all their texts."""
    counts = [inputs_of(program) for program in programs]
    if not 1 <= len(counts) <= MOST_PROGRAMS:
        raise BadInputs(f"{len(counts)} programs make no ring")
    many_inputs = counts[0]
    if counts != [many_inputs for _ in counts] or not 1 <= many_inputs <= MOST_INPUTS:
        raise BadInputs(f"programs of {counts} inputs make no ring")
    words = [f"w{number}" for number in range(1, len(counts) + 1)]
    parameters = made_parameters(many_inputs)
    functions, mains = side_by_side(programs)
    # Behind the front function come three more: those of know_own and the
    # one that chooses a program of the ring by its word.
    texts = _texts_of_ring(len(functions) + 3, words, parameters[:-1])
    body = _choice_by_word(words, [(main, texts, *parameters[1:]) for main in mains])
    chooser = know_own(with_front(functions, ("s", *parameters), body))
    return [filled(chooser, word) for word in words]


def _text_of_filled(number, parameters):
    """Return the expression that has the text of fill(r, r) if s is r.

    number is that of the main function of r, parameters are those behind s.
    """
    quoted = ("join", ("quote", "quote"), ("join", "s", ("quote", ())))
    call = ("join", ("quote", made_name(number)), ("join", quoted, ("quote", parameters)))
    front = listing([("quote", made_name(number + 1)), ("quote", parameters), call])
    return ("join", front, "s")


def _texts_of_ring(number, words, parameters):
    """Return the expression that has the list of a ring's texts if s is the program that chooses by a word.

    number is how many functions that program has; parameters are those of the
    programs of the ring.
    """
    texts = []
    for word in words:
        front = (made_name(number), parameters, (made_name(number - 1), ("quote", word), *parameters))
        texts.append(("join", ("quote", front), "s"))
    return listing(texts)


def _choice_by_word(words, calls):
    """Return the expression that evaluates the call in the place of the word that x1 is; the last one otherwise."""
    body = calls[-1]
    for at in range(len(calls) - 2, -1, -1):
        body = ("if", ("same", "x1", ("quote", words[at])), calls[at], body)
    return body
