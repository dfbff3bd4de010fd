"""What the tests have in common: runs written down from the document's words, random programs, and checks.

A reference run goes by calls of calls and keeps every call, so it is for short runs alone.
"""

import itertools
import random
import unittest

from ownglass.errors import BadInputs, BadProgram, BadText, GlassError
from ownglass.texts import read_value, write_value


class Tired(Exception):
    """The run would take more steps than the limit."""


class Call:
    """A call of a run: end is the number of steps when its body has its value, None while it is open."""

    def __init__(self, function, values, begin):
        self.function = function
        self.values = values
        self.begin = begin
        self.end = None

    def is_like(self, other):
        return self.function == other.function and self.values == other.values

    def is_open_at(self, step):
        return self.begin < step and (self.end is None or self.end >= step)


class ReferenceRun:
    """A run: kind, value and steps are those of Run; calls holds all calls that begin within the limit."""

    def __init__(self, program, inputs, limit):
        self.functions = {function[0]: function for function in reversed(program)}
        self.limit = limit
        self.steps = 0
        self.calls = []
        try:
            self.value = self.call(program[0][0], tuple(inputs))
            self.kind = "great" if parts_of(self.value) > 200000 or depth_of(self.value) > 200 else "done"
        except Tired:
            self.kind = "tired"
            self.steps = limit
        if self.kind != "done":
            self.value = None

    def call(self, name, values):
        call = Call(name, values, self.steps + 1)
        if call.begin <= self.limit:
            self.calls.append(call)
        _, parameters, body = self.functions[name]
        value = self.evaluate(body, dict(zip(parameters, values)))
        call.end = self.steps
        return value

    def evaluate(self, expression, known):
        self.steps += 1
        if self.steps > self.limit:
            raise Tired
        if isinstance(expression, str):
            return known[expression]
        word, *parts = expression
        if word == "quote":
            return parts[0]
        if word == "if":
            test = self.evaluate(parts[0], known)
            return self.evaluate(parts[1] if test != () else parts[2], known)
        values = [self.evaluate(part, known) for part in parts]
        if word == "same":
            return "yes" if values[0] == values[1] else ()
        if word == "word":
            return "yes" if isinstance(values[0], str) else ()
        if word == "head":
            return values[0][0] if isinstance(values[0], tuple) and values[0] else ()
        if word == "tail":
            return values[0][1:] if isinstance(values[0], tuple) else ()
        if word == "join":
            return (values[0],) + (values[1] if isinstance(values[1], tuple) else ())
        return self.call(word, tuple(values))

    def is_paper(self, first, second):
        """Whether (first, second) is a paper, of numbers within the limit."""
        begun = {call.begin: call for call in self.calls}
        if first not in begun or second not in begun or not first < second:
            return False
        return begun[first].is_like(begun[second]) and begun[first].is_open_at(second)

    def first_papers(self):
        """All papers with the least second number."""
        for call in self.calls:
            found = [(other.begin, call.begin) for other in self.calls if self.is_paper(other.begin, call.begin)]
            if found:
                return found
        return []


def parts_of(value, known=None):
    known = {} if known is None else known
    if isinstance(value, str):
        return 1
    if id(value) not in known:
        known[id(value)] = 1 + sum(parts_of(item, known) for item in value)
    return known[id(value)]


def depth_of(value, known=None):
    known = {} if known is None else known
    if isinstance(value, str):
        return 0
    if id(value) not in known:
        known[id(value)] = 1 + max((depth_of(item, known) for item in value), default=0)
    return known[id(value)]


def is_part(expression, parameter):
    """Whether the expression is a part of the parameter."""
    if isinstance(expression, str) or expression[0] not in ("head", "tail"):
        return False
    return expression[1] == parameter or is_part(expression[1], parameter)


def calls_within(expression, names, guards=()):
    """The calls in an expression, each with the parameters that it is guarded for."""
    if isinstance(expression, str) or expression[0] == "quote":
        return []
    found = [(expression, guards)] if expression[0] in names else []
    for at, part in enumerate(expression[1:]):
        inner = guards
        if expression[0] == "if" and at == 1 and isinstance(expression[1], str):
            inner = guards + (expression[1],)
        found += calls_within(part, names, inner)
    return found


def is_sure_paper(program, paper):
    """Whether the paper is right, by the document's words."""
    names = [function[0] for function in program]
    calls = {name: calls_within(body, names) for name, _, body in program}
    reach = {name: {call[0] for call, _ in calls[name]} for name in names}
    for middle in names:
        for name in names:
            if middle in reach[name]:
                reach[name] |= reach[middle]
    number_of = dict(zip(names, paper))
    if len(paper) != len(program):
        return False
    for name, parameters, _ in program:
        bound = len(parameters) if name in reach[name] else 1
        if not 0 <= number_of[name] < bound:
            return False
    for name, parameters, _ in program:
        for call, guards in calls[name]:
            if name in reach[call[0]]:
                own = parameters[number_of[name]]
                if own not in guards or not is_part(call[1 + number_of[call[0]]], own):
                    return False
    return True


def least_sure_paper(program):
    """The least right paper, found by trying all of them."""
    ranges = [range(max(1, len(parameters))) for _, parameters, _ in program]
    return next((paper for paper in itertools.product(*ranges) if is_sure_paper(program, paper)), None)


class ReferenceMachine:
    """A run of a machine program: kind, value and steps are those of Run."""

    def __init__(self, program, inputs, limit):
        self.routines = {routine[0]: routine[1:] for routine in program}
        self.limit = limit
        self.steps = 0
        # The top one first, as the document has it.
        self.stack = list(reversed(inputs))
        try:
            self.carry_out(program[0][1:])
            self.value = self.at(0)
            self.kind = "great" if parts_of(self.value) > 200000 or depth_of(self.value) > 200 else "done"
        except Tired:
            self.kind = "tired"
            self.steps = limit
        if self.kind != "done":
            self.value = None

    def at(self, place):
        return self.stack[place] if place < len(self.stack) else ()

    def take(self):
        return self.stack.pop(0) if self.stack else ()

    def carry_out(self, instructions):
        for instruction in instructions:
            self.steps += 1
            if self.steps > self.limit:
                raise Tired
            word, *parts = instruction
            if word == "call":
                self.carry_out(self.routines[parts[0]])
            elif word == "if":
                self.carry_out(self.routines[parts[0 if self.take() != () else 1]])
            elif word == "push":
                self.stack.insert(0, parts[0])
            elif word == "copy":
                self.stack.insert(0, self.at(len(parts[0])))
            elif word == "slide":
                top = self.take()
                for _ in parts[0]:
                    self.take()
                self.stack.insert(0, top)
            else:
                self.stack.insert(0, self.changed(word))

    def changed(self, word):
        top = self.take()
        if word == "word":
            return "yes" if isinstance(top, str) else ()
        if word == "head":
            return top[0] if isinstance(top, tuple) and top else ()
        if word == "tail":
            return top[1:] if isinstance(top, tuple) else ()
        second = self.take()
        if word == "same":
            return "yes" if second == top else ()
        return (second,) + (top if isinstance(top, tuple) else ())


def reference_to_machine(program):
    """The machine program of a program, by the document's words."""
    routines = []
    for name, parameters, body in program:
        routines.append((name, *instructions_of(body, (name,), (), parameters), ("slide", parameters)))
        routines += routines_of(body, (name,), (), parameters)
    return tuple(routines)


def parts_with_paths(expression, path, depth):
    """The parts of an expression, each with its path and its depth."""
    for at, part in enumerate(expression[1:]):
        more = 0 if expression[0] == "if" else at
        yield part, (f"p{at + 1}",) + path, ("a",) * more + depth


def instructions_of(expression, path, depth, parameters):
    if isinstance(expression, str):
        return [("copy", parameters[parameters.index(expression) + 1:] + depth)]
    word = expression[0]
    if word == "quote":
        return [("push", expression[1])]
    parts = list(parts_with_paths(expression, path, depth))
    if word == "if":
        return instructions_of(*parts[0], parameters) + [("if", parts[1][1], parts[2][1])]
    found = [instruction for part in parts for instruction in instructions_of(*part, parameters)]
    return found + [(word,) if word in ("same", "word", "head", "tail", "join") else ("call", word)]


def routines_of(expression, path, depth, parameters):
    if isinstance(expression, str) or expression[0] == "quote":
        return []
    found = []
    for at, part in enumerate(parts_with_paths(expression, path, depth)):
        if expression[0] == "if" and at > 0:
            found.append((part[1], *instructions_of(*part, parameters)))
        found += routines_of(*part, parameters)
    return found


def reference_from_machine(program, inputs):
    """The text of the program of a machine program, by the document's words."""
    names = [routine[0] for routine in program]
    made, helpers, rows = {}, [], []
    for at, routine in enumerate(program):
        body = "s"
        for word, *parts in routine[1:]:
            if word == "push":
                body = f"(join (quote {write_value(parts[0])}) {body})"
            elif word == "call":
                body = f"(f{names.index(parts[0]) + 1} {body})"
            else:
                if word == "copy":
                    told = f"(join (head {'(tail ' * len(parts[0])}s{')' * len(parts[0])}) s)"
                elif word == "slide":
                    told = f"(join (head s) {'(tail ' * (len(parts[0]) + 1)}s{')' * (len(parts[0]) + 1)})"
                elif word == "if":
                    full, empty = [names.index(name) + 1 for name in parts]
                    told = f"(if (head s) (f{full} (tail s)) (f{empty} (tail s)))"
                elif word in ("same", "join"):
                    told = f"(join ({word} (head (tail s)) (head s)) (tail (tail s)))"
                else:
                    told = f"(join ({word} (head s)) (tail s))"
                key = (word, told)
                if key not in made:
                    made[key] = f"f{len(program) + 1 + len(made)}"
                    helpers.append(f"({made[key]} (s) {told})")
                body = f"({made[key]} {body})"
        rows.append(f"(f{at + 1} (s) {body})")
    stack = "(quote ())"
    for at in range(1, inputs + 1):
        stack = f"(join x{at} {stack})"
    return f"({' '.join([f'(f0 ({words(inputs)}) (head (f1 {stack})))', *rows, *helpers])})"


VALUES = [read_value(text) for text in ("()", "a", "yes", "(a)", "(a b)", "((a) b ())", "(() (a (a)))", "(x x)")]


class Maker:
    """Makes random values and good programs, the same ones for the same seed."""

    def __init__(self, seed):
        self.random = random.Random(seed)

    def value(self):
        return self.random.choice(VALUES)

    def program(self, inputs=None, most_functions=3):
        count = self.random.randint(1, most_functions)
        counts = [self.random.randint(0, 3) for _ in range(count)]
        if inputs is not None:
            counts[0] = inputs
        names = [f"g{at}" for at in range(count)]
        parameters = [tuple("xyzuvwabc"[:many]) for many in counts]
        called = dict(zip(names, counts))
        bodies = [self.expression(some, called, self.random.randint(1, 4)) for some in parameters]
        return tuple(zip(names, parameters, bodies))

    def expression(self, parameters, called, depth):
        chance = self.random.random()
        if depth == 0 or chance < 0.1:
            if parameters and self.random.random() < 0.8:
                return self.random.choice(parameters)
            return ("quote", self.value())
        if chance < 0.3:
            word, many = "if", 3
        elif chance < 0.7:
            word, many = self.random.choice((("same", 2), ("word", 1), ("head", 1), ("tail", 1), ("join", 2)))
        else:
            word, many = self.random.choice(list(called.items()))
        return (word, *[self.expression(parameters, called, depth - 1) for _ in range(many)])

    def machine(self, most_routines=4):
        names = self.random.sample(VALUES + ["main", "call", "pi", ("p1", "main")], self.random.randint(1, most_routines))
        return tuple((name, *[self.instruction(names) for _ in range(self.random.randint(0, 7))]) for name in names)

    def instruction(self, names):
        chance = self.random.random()
        if chance < 0.2:
            return ("push", self.value())
        if chance < 0.5:
            many = self.random.choice((0, 0, 1, 1, 2, 3))
            return (self.random.choice(("copy", "copy", "slide")), tuple(self.value() for _ in range(many)))
        if chance < 0.8:
            return (self.random.choice(("same", "word", "head", "tail", "join", "join")),)
        if chance < 0.88:
            return ("call", self.random.choice(names))
        return ("if", self.random.choice(names), self.random.choice(names))

    def shrinking_program(self):
        """A program whose calls mostly have parts of parameters, behind tests of these."""
        count = self.random.randint(1, 3)
        names = [f"g{at}" for at in range(count)]
        many = self.random.choice((1, 2, 2, 3))
        functions = []
        for name in names:
            parameters = tuple(self.random.sample("xyz"[:many], many))
            body = self.random.choice(parameters)
            for _ in range(self.random.randint(1, 2)):
                call = (self.random.choice(names), *[self.part(parameters) for _ in range(many)])
                body = ("join", call, body)
            for _ in range(self.random.choice((1, 1, 2))):
                other = self.random.choice(parameters)
                body = ("if", self.random.choice(parameters), *self.random.choice(((body, other),) * 9 + ((other, body),)))
            functions.append((name, parameters, body))
        return tuple(functions)

    def part(self, parameters):
        part = parameters[0] if self.random.random() < 0.6 else self.random.choice(parameters)
        for _ in range(self.random.choice((0, 1, 1, 1, 2))):
            part = (self.random.choice(("head", "tail")), part)
        return part


def words(count):
    """The made parameters as they stand in a text."""
    return " ".join(f"x{k}" for k in range(1, count + 1))


def with_blank(count):
    """The same behind a space, where there is one at all."""
    return "".join(f" x{k}" for k in range(1, count + 1))


def takes(count, body="(quote a)"):
    """A program of so many inputs."""
    return read_value(f"((main ({words(count)}) {body}))")


def lists(count):
    """A program of so many inputs that makes a list of them, in order."""
    body = "(quote ())"
    for k in range(count, 0, -1):
        body = f"(join x{k} {body})"
    return takes(count, body)


def some_inputs(count):
    return [("a", "b", ("c",), (), "d", ((),), "e", "g", "h", ("i", "j"))[k] for k in range(count)]


class GlassTest(unittest.TestCase):
    """Checks of errors and texts."""

    def check_text(self, value, text):
        self.assertEqual(write_value(value), text)
        self.assertIs(type(value), tuple)

    def check_raises(self, error, others, call):
        with self.assertRaises(error) as caught:
            call()
        self.assertIsInstance(caught.exception, GlassError)
        self.assertIsInstance(caught.exception, ValueError)
        self.assertNotIsInstance(caught.exception, others + (BadText,))
        return caught.exception

    def check_bad_inputs(self, call):
        self.check_raises(BadInputs, (BadProgram,), call)

    def check_bad_program(self, function, call):
        self.assertEqual(self.check_raises(BadProgram, (BadInputs,), call).function, function)
