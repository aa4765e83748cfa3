"""Choices of some of several things, told by their indices."""


def each_choice(many):
    """All ascending tuples of at least one of the first so many indices, ascending."""
    chosen = [0] if many > 0 else []
    while chosen:
        yield tuple(chosen)
        if chosen[-1] < many - 1:
            chosen.append(chosen[-1] + 1)
        else:
            chosen.pop()
            if chosen:
                chosen[-1] += 1
