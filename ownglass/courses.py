"""Runs on their way."""

from ownglass.codes import CALL, COPY, GO, JOIN, LOOK, PUSH, RETURN, SAME, TEST
from ownglass.nodes import EMPTY, YES


class Course:
    """A run that is gone along bit by bit: it stands ahead of a call, or is at its end.

    called is the number of the function whose call is the next to begin, None
    at the end. steps is the number of steps so far. At the end the value is on
    top of the stack.
    """

    def __init__(self, code, function, inputs):
        self.code = code
        self.called = function
        self.stack = list(inputs)
        self.steps = 0
        # The row to go on with behind each open call. A list, and no nested
        # calls of Python: there may be as many open as there are steps.
        self._behind = [0]

    def many_open(self):
        """Return how many calls are open besides the one that is next to begin."""
        return len(self._behind) - 1

    def next_call(self):
        """Return the call that is next to begin, as its function and its inputs."""
        first = len(self.stack) - self.code.many_inputs[self.called]
        return (self.called, *self.stack[first:])

    def go_on(self, bound):
        """Begin each call that has fewer steps than the bound ahead of it; stop at the next one, or at the end."""
        if self.called is not None and self.steps < bound:
            start = self.code.starts[self.called]
            self.called = None
            self._go_along(start, bound)

    def _go_along(self, at, bound):
        """Go along the rows from this one on."""
        rows, starts, nodes = self.code.rows, self.code.starts, self.code.nodes
        stack, behind, steps = self.stack, self._behind, self.steps
        while True:
            kind, what, begun = rows[at]
            at += 1
            if kind == COPY:
                steps += begun
                stack.append(stack[what])
            elif kind == LOOK:
                stack[-1] = what[stack[-1]]
            elif kind == PUSH:
                steps += begun
                stack.append(what)
            elif kind == TEST:
                if stack.pop() == EMPTY:
                    at = starts[what]
            elif kind == CALL:
                steps += begun
                behind.append(at)
                if steps >= bound:
                    self.called = what
                    break
                at = starts[what]
            elif kind == RETURN:
                stack[what:] = stack[-1:]
                at = behind.pop()
            elif kind == SAME:
                top = stack.pop()
                stack[-1] = YES if stack[-1] == top else EMPTY
            elif kind == JOIN:
                top = stack.pop()
                stack[-1] = nodes.joined(stack[-1], top)
            elif kind == GO:
                at = starts[what]
            else:
                break
        self.steps = steps
