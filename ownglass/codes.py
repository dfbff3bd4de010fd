"""Programs written as rows, which a run goes along one after the other.

A run has a stack of values: the inputs of the call that it is in, and on top
of them what the body has so far. A row is (kind, what, begun): what becomes of
the stack, with which number or table, and how many expressions begin with the
row. So each expression is counted with the first word, quote or call without
parts that stands in it, and that is ahead of every call within it.
"""

END = 0     # the run is at its end
COPY = 1    # put on top what stands at the place, counted from the top, which is -1
PUSH = 2    # put the node on top
LOOK = 3    # put what the table has for the top value in its place
SAME = 4    # put whether the two top values are the same in their place
JOIN = 5    # put the lower of the two top values, joined onto the top one, in their place
TEST = 6    # take the top value off; if it is (), go to the start
GO = 7      # go to the start
CALL = 8    # begin a call of the function
RETURN = 9  # put the top value in place of all from the place on; go on behind the call

# What stands beside rows in a plan of what is still to be written: an
# expression, and a start, which is to be at the next row.
EXPRESSION = 10
START = 11


class Code:
    """A good program as rows.

    starts tells at which row each function begins, and behind the functions at
    which row each piece begins to which a test goes, or the end of a piece.
    many_inputs tells how many inputs each function has.
    """

    def __init__(self, program, nodes):
        self.nodes = nodes
        self.rows = [(END, 0, 0)]
        self.starts = [0 for _ in program]
        self.many_inputs = [len(function[1]) for function in program]
        self._numbers = {function[0]: number for number, function in enumerate(program)}
        # How many expressions have begun since the last row.
        self._begun = 0
        # Pieces still to be written: a body, or what an if has for ().
        self._pieces = []
        for number, function in enumerate(program):
            _, parameters, body = function
            self._pieces.append((number, body, parameters, 0, _row(RETURN, -1 - len(parameters))))
        while self._pieces:
            self._write_piece(self._pieces.pop())

    def _write_piece(self, piece):
        """Write the rows of a piece."""
        start, expression, parameters, height, end = piece
        self.starts[start] = len(self.rows)
        # A plan, and no calls of calls, so that deep bodies cost no recursion.
        plan = [(EXPRESSION, expression, height, end)]
        while plan:
            kind, what, height, end = plan.pop()
            if kind == EXPRESSION:
                plan.extend(self._plan_of(what, parameters, height, end))
            elif kind == START:
                self.starts[what] = len(self.rows)
            else:
                self.rows.append((kind, what, self._begun))
                self._begun = 0

    def _plan_of(self, expression, parameters, height, end):
        """Return the plan of an expression, the last first.

        end is the row with which the piece ends, if the expression is the last
        of the piece, otherwise None.
        """
        self._begun += 1
        if isinstance(expression, str):
            plan = [_row(COPY, parameters.index(expression) - len(parameters) - height)]
        elif expression[0] == "quote":
            plan = [_row(PUSH, self.nodes.number_of(expression[1]))]
        elif expression[0] == "if":
            return self._plan_of_if(expression, parameters, height, end)
        else:
            plan = [self._row_behind_parts(expression[0])]
            for at in range(len(expression) - 1, 0, -1):
                plan.append((EXPRESSION, expression[at], height + at - 1, None))
        return plan if end is None else [end, *plan]

    def _plan_of_if(self, expression, parameters, height, end):
        """Return the plan of an if; its last part becomes a piece of its own."""
        _, test, full, empty = expression
        plan = []
        piece_end = end
        if end is None:
            behind = self._new_start()
            plan.append(_row(START, behind))
            piece_end = _row(GO, behind)
        piece = self._new_start()
        self._pieces.append((piece, empty, parameters, height, piece_end))
        plan.append((EXPRESSION, full, height, end))
        plan.append(_row(TEST, piece))
        plan.append((EXPRESSION, test, height, None))
        return plan

    def _new_start(self):
        """Return the number of a start that is still to be set."""
        self.starts.append(0)
        return len(self.starts) - 1

    def _row_behind_parts(self, word):
        """Return the row that does what the first word of a list asks for with the values of the parts."""
        nodes = self.nodes
        rows = {
            "same": (SAME, 0),
            "join": (JOIN, 0),
            "word": (LOOK, nodes.wordness),
            "head": (LOOK, nodes.heads),
            "tail": (LOOK, nodes.tails),
        }
        if word in rows:
            kind, what = rows[word]
            return _row(kind, what)
        return _row(CALL, self._numbers[word])


def _row(kind, what):
    """Return a row, or a start, as it stands in a plan."""
    return (kind, what, 0, None)
