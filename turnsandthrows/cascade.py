"""Cascades: levels of places, their acts, and the rows that show states."""


class Cascade:
    """Levels whose places are changed by letters and by the places of the levels before them."""

    def __init__(self, widths, acts, shown):
        self.widths = tuple(widths)
        self.acts = tuple([{key: act for key, act in table.items()} for table in acts])
        self.shown = {row: state for row, state in shown.items()}

    def step(self, row, letter):
        """Return the row to which the letter leads the row, or None if it leads it nowhere."""
        there = []
        for level, place in enumerate(row):
            act = self.acts[level].get((row[:level], letter))
            if act is None or not 0 <= place < self.widths[level]:
                return None
            there.append(act[place])
        return tuple(there)

    def run(self, row, word):
        """Return the row to which the word leads the row, or None if a step returns None."""
        for letter in word:
            row = self.step(row, letter)
            if row is None:
                return None
        return row

    def rows_of(self, state):
        """Return the list of the shown rows that show the state, ascending."""
        return sorted([row for row, there in self.shown.items() if there == state])
