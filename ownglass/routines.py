"""Routines of machine programs whose names, which may be any values, are numbers."""

from ownglass.nodes import Nodes


def numbered(program):
    """Return for each routine of a right machine program the list of its instructions with numbers.

    A routine's name is replaced by its number, counted from 0, and the list of
    a copy or a slide by the number of its items.
    """
    nodes = Nodes()
    numbers = {nodes.number_of(routine[0]): number for number, routine in enumerate(program)}
    return [[_with_numbers(part, numbers, nodes) for part in routine[1:]] for routine in program]


def _with_numbers(instruction, numbers, nodes):
    """Return the instruction with numbers in place of names and of lists that are only counted."""
    word, *parts = instruction
    if word in ("copy", "slide"):
        return (word, len(parts[0]))
    if word in ("call", "if"):
        return (word, *[numbers[nodes.number_of(name)] for name in parts])
    return instruction
