"""What a bench is at one moment, and how it is put back to it."""

from wheelgrown.part.partings import held_level


class Stand:
    """A row of the states in which a bench was, and the index of the present one. A stand never changes.

    A state is a triple of a web, of the pledges, and of the level at which the web is held.
    """

    def __init__(self, states, at):
        work, demands, held = states[at]
        self.states = states
        self.at = at
        self.work = work
        self.demands = demands
        self.held = held
        self.rows = work.lines

    def gone_on(self, work, demands):
        """The stand behind one change more, behind which none can be done again."""
        held = self.held if work == self.work else held_level(work)
        return Stand((*self.states[:self.at + 1], (work, demands, held)), self.at + 1)

    def gone_by(self, many):
        """The stand so many changes later, or earlier if it is less than 0, None if there is none."""
        at = self.at + many
        return Stand(self.states, at) if 0 <= at < len(self.states) else None


def first_stand(web):
    """The stand of a new bench."""
    return Stand(((web, (), held_level(web)),), 0)


class Trial:
    """A block behind which a bench is as it was before."""

    def __init__(self, table):
        self.table = table
        self.before = None

    def __enter__(self):
        self.before = self.table._stand
        return self.table

    def __exit__(self, kind, value, trace):
        table = self.table
        table._stand = self.before
