"""Values, and the texts that write them.

Values are gone through with a list of what is still to be done, and not by
calls of calls, so that deep values cost Python no deep recursion.
"""

from ownglass.errors import BadText

LETTERS = "abcdefghijklmnopqrstuvwxyz"
RUN_SIGNS = "abcdefghijklmnopqrstuvwxyz0123456789"
BLANKS = " \n"
LONGEST_WORD = 12


def read_value(text):
    """Return the value that the text writes, or raise BadText."""
    # The first list gets the whole value, once it is whole; each later one
    # collects the items of a list of the text that is still open.
    unfinished = [[]]
    at = _behind_blanks(text, 0)
    while not unfinished[0]:
        if at == len(text):
            raise BadText(at)
        if text[at] == "(":
            unfinished.append([])
            at += 1
        elif text[at] == ")" and len(unfinished) > 1:
            items = unfinished.pop()
            unfinished[-1].append(tuple(items))
            at += 1
        else:
            word = _word_at(text, at)
            unfinished[-1].append(word)
            at += len(word)
        at = _behind_blanks(text, at)
    if at < len(text):
        raise BadText(at)
    return unfinished[0][0]


def _behind_blanks(text, start):
    """Return the place of the first sign from start on that is no blank."""
    at = start
    while at < len(text) and text[at] in BLANKS:
        at += 1
    return at


def _word_at(text, start):
    """Return the word that begins at start, or raise BadText."""
    if text[start] not in LETTERS:
        raise BadText(start)
    end = start + 1
    while end < len(text) and text[end] in RUN_SIGNS:
        if end - start == LONGEST_WORD:
            raise BadText(end)
        end += 1
    return text[start:end]


def write_value(value):
    """Return the text of the value."""
    pieces = []
    # Beside values, signs to be written wait here; no sign is a tuple.
    waiting = [value]
    while waiting:
        part = waiting.pop()
        if isinstance(part, str):
            pieces.append(part)
        else:
            pieces.append("(")
            waiting.append(")")
            for at in range(len(part) - 1, -1, -1):
                waiting.append(part[at])
                if at > 0:
                    waiting.append(" ")
    return "".join(pieces)


def same_values(first, second):
    """Return True if the two values are the same, otherwise False."""
    waiting = [(first, second)]
    while waiting:
        one, other = waiting.pop()
        # What is no list is compared whatever it is: an answer to a claim has
        # numbers beside its values.
        if not isinstance(one, tuple) or not isinstance(other, tuple):
            if one != other:
                return False
        elif len(one) != len(other):
            return False
        else:
            waiting.extend(list(zip(one, other)))
    return True
