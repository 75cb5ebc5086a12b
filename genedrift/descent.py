"""Who comes of whom, by rows of draws, the oldest row first."""


def parents_of(copies, draws):
    """The parent of each of these copies."""
    return [draws[member] for member in copies]


def ancestors_of(copies, draw_rows, t):
    """What each of these copies of the newest generation comes of, t generations before."""
    ancestors = list(copies)
    for step in range(t):
        ancestors = parents_of(ancestors, draw_rows[len(draw_rows) - 1 - step])
    return ancestors


def common_ancestor(copies, draw_rows):
    """The least t for which these copies come of one, and that one; an empty list where there is no such t."""
    ancestors = list(copies)
    t = 0
    while len(set(ancestors)) > 1:
        if t == len(draw_rows):
            return []
        ancestors = parents_of(ancestors, draw_rows[len(draw_rows) - 1 - t])
        t += 1
    return [t, ancestors[0]]
