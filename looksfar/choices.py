"""Choices: one item out of each of several lists."""


def choices(lists):
    """The list of all tuples that take one item out of each list, in order, the last item changing first."""
    rows = [()]
    for items in lists:
        rows = [row + (item,) for row in rows for item in items]
    return rows
