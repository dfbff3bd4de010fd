"""Values as numbers: each value has one number in a store of nodes.

A run may double a list at each step, so values are neither copied nor gone
through to be compared. A list is kept as the number of its first item and the
number of the list without it, and no such pair is kept twice. So two values
are the same exactly if their numbers are equal.
"""

# The numbers of () and of the word yes, in every store.
EMPTY = 0
YES = 1

MOST_PARTS = 200000
MOST_DEPTH = 200


class Nodes:
    """A store of values.

    heads, tails and wordness tell for each number the number of what head,
    tail and word give for its value.
    """

    def __init__(self):
        self.heads = [EMPTY, EMPTY]
        self.tails = [EMPTY, EMPTY]
        self.wordness = [EMPTY, YES]
        self.spellings = {YES: "yes"}
        self.numbers_of_words = {"yes": YES}
        self.numbers_of_lists = {}

    def joined(self, first, rest):
        """Return the number of the list of the first value ahead of the other one's items."""
        if self.wordness[rest]:
            rest = EMPTY
        pair = (first, rest)
        number = self.numbers_of_lists.get(pair)
        if number is None:
            number = len(self.heads)
            self.numbers_of_lists[pair] = number
            self.heads.append(first)
            self.tails.append(rest)
            self.wordness.append(EMPTY)
        return number

    def number_of(self, value):
        """Return the number of the value."""
        done = []
        for part in reversed(_parts_of(value)):
            if isinstance(part, str):
                done.append(self._number_of_word(part))
            else:
                number = EMPTY
                for _ in part:
                    number = self.joined(done.pop(), number)
                done.append(number)
        return done[0]

    def _number_of_word(self, word):
        """Return the number of the word."""
        number = self.numbers_of_words.get(word)
        if number is None:
            number = len(self.heads)
            self.numbers_of_words[word] = number
            self.spellings[number] = word
            self.heads.append(EMPTY)
            self.tails.append(EMPTY)
            self.wordness.append(YES)
        return number

    def value_of(self, number):
        """Return the value that has the number, and that is not great."""
        done = []
        for part, many_items in reversed(self._numbers_within(number)):
            if part in self.spellings:
                done.append(self.spellings[part])
            else:
                start = len(done) - many_items
                items = tuple(done[start:])
                del done[start:]
                done.append(items)
        return done[0]

    def _numbers_within(self, number):
        """Return the numbers of the value's parts, each list ahead of its items, with how many items it has."""
        found = []
        waiting = [number]
        while waiting:
            part = waiting.pop()
            items = self._items_of(part)
            found.append((part, len(items)))
            waiting.extend(items)
        return found

    def _items_of(self, number):
        """Return the numbers of the items of the value; a word has none."""
        items = []
        rest = number
        while rest != EMPTY and not self.wordness[rest]:
            items.append(self.heads[rest])
            rest = self.tails[rest]
        return items

    def is_great(self, number):
        """Return whether the value has more parts, or is nested deeper, than a run may tell."""
        # Parts are not counted beyond the bound: their number may double with each list.
        parts = []
        depths = []
        # What a list is made of has smaller numbers than the list.
        for node in range(number + 1):
            if self.wordness[node]:
                parts.append(1)
                depths.append(0)
            elif node == EMPTY:
                parts.append(1)
                depths.append(1)
            else:
                first, rest = self.heads[node], self.tails[node]
                parts.append(min(parts[first] + parts[rest], MOST_PARTS + 1))
                depths.append(max(depths[first] + 1, depths[rest]))
        return parts[number] > MOST_PARTS or depths[number] > MOST_DEPTH


def _parts_of(value):
    """Return all parts of the value, each list ahead of its items, the last item first."""
    parts = []
    waiting = [value]
    while waiting:
        part = waiting.pop()
        parts.append(part)
        if isinstance(part, tuple):
            waiting.extend(part)
    return parts
