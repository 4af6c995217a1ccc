"""Counts: for how many turns in a row each step of a curve is met."""

from fuseboard.curves import met


class Counts:
    """The counts of a curve, one for each of its steps, at first 0."""

    def __init__(self, curve):
        self.curve = curve
        self.counts = [0] * len(curve)

    def turns(self, draw, many):
        """So many turns of this draw are over."""
        # Not even the steps that this draw doesn't meet are changed by no turns.
        if many == 0:
            return
        reached = met(self.curve, draw)
        self.counts = [count + many if at < reached else 0 for at, count in enumerate(self.counts)]

    def told(self):
        """A new list of the counts."""
        return list(self.counts)

    def clear(self):
        """All counts are 0 from now on."""
        self.counts = [0] * len(self.curve)

    def full(self, more):
        """Whether a step's count is no less than its turns and these turns more together."""
        return len(self.full_steps(more)) > 0

    def full_steps(self, more):
        """The places of all steps whose counts are so."""
        return [at for at, count in enumerate(self.counts) if count >= self.curve[at][1] + more]

    def until(self, draw, more):
        """Behind how many turns of this draw a turn's end first finds the counts full; None where never."""
        # A step that isn't met goes to 0, and no step has 0 turns: only met ones count.
        # What is full already is found so at the end of the next turn, not sooner.
        reached = met(self.curve, draw)
        waits = [max(1, self.curve[at][1] + more - self.counts[at]) for at in range(reached)]
        if not waits:
            return None
        return min(waits)
