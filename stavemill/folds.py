"""Folds: a row of things written shorter, what comes again told once."""

# What a fold costs beside the things of its body.
FOLD_COST = 2


def alike_from(row, size):
    """For each place how many things from it on are each as the one that stands so far behind it."""
    told = [0] * len(row)
    for at in range(len(row) - size - 1, -1, -1):
        if row[at] == row[at + size]:
            told[at] = told[at + 1] + 1
    return told


def most_times(row):
    """For each size of a body the list that has for each place how often the body there stands in the row."""
    told = {}
    for size in range(1, len(row) + 1):
        told[size] = [many // size + 1 for many in alike_from(row, size)]
    return told


def fold_choices(at, times_by_size, best):
    """For each fold that can begin at a place the tuple (cost, -things, size), of as many things as it tells.

    The cost is that of the fold and of the best folds behind it, which best tells.
    """
    choices = []
    for size in range(1, len(best) - at):
        for times in range(1, times_by_size[size][at] + 1):
            things = size * times
            choices.append((FOLD_COST + size + best[at + things][0], -things, size))
    return choices


def best_folds(row):
    """For each place the tuple (cost, -things, size) of the best fold that begins there, and one for the end."""
    times_by_size = most_times(row)
    # Behind the last thing nothing is left to tell.
    best = [(0, 0, 0)] * (len(row) + 1)
    for at in range(len(row) - 1, -1, -1):
        # Of folds that cost alike the one that tells the most things has the least tuple, then the shortest body.
        best[at] = min(fold_choices(at, times_by_size, best))
    return best


def fold_prices(row):
    """The list that has for each thing its price."""
    return [fold[0] for fold in best_folds(row)[:-1]]


def folded(row):
    """The list of the folds (times, body) that tell a row."""
    best = best_folds(row)
    folds = []
    at = 0
    while at < len(row):
        things = -best[at][1]
        size = best[at][2]
        folds.append((things // size, row[at:at + size]))
        at += things
    return folds


def unfolded(folds):
    """The row that folds tell."""
    row = []
    for times, body in folds:
        row.extend(times * body)
    return row
