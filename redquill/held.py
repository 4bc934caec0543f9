"""Two texts held against each other: the least price of strikes and puts between them, and a paper of these."""

from redquill.paper import Paper


def prices_behind(above, sign, other):
    row = [above[0] + 1]
    for j, other_sign in enumerate(other):
        price = min(above[j + 1], row[j]) + 1
        if sign == other_sign:
            price = min(price, above[j])
        row.append(price)
    return row


def prices(one, other):
    table = [list(range(len(other) + 1))]
    for i, sign in enumerate(one):
        table.append(prices_behind(table[i], sign, other))
    return table


def last_step(table, one, other, i, j):
    # Where both last signs are alike, no walk is cheaper than one that keeps them.
    if i > 0 and j > 0 and one[i - 1] == other[j - 1]:
        return ("keep", i - 1, j - 1)
    if i > 0 and table[i][j] == table[i - 1][j] + 1:
        return ("strike", i - 1)
    return ("put", j - 1)


def steps(one, other):
    table = prices(one, other)
    i = len(one)
    j = len(other)
    backwards = []
    while i > 0 or j > 0:
        step = last_step(table, one, other, i, j)
        backwards.append(step)
        if step[0] != "put":
            i = i - 1
        if step[0] != "strike":
            j = j - 1
    return list(reversed(backwards))


def kept_pairs(one, other):
    return [step[1:] for step in steps(one, other) if step[0] == "keep"]


def against(old, new, pen):
    paper = Paper(old)
    i = 0
    j = 0
    # The ends stand for one more kept pair, so that what is behind the last one is changed like any other stretch.
    for kept, kept_new in kept_pairs(old, new) + [(len(old), len(new))]:
        # The view begins with the new text's signs up to here: so the old signs that go have numbers from j on.
        end = j + kept - i
        # What comes is put in first, while the signs that go are there, so that it is shown behind them.
        if kept_new > j:
            paper.put(pen, end, new[j:kept_new])
        if end > j:
            paper.strike(pen, j, end)
        i = kept + 1
        j = kept_new + 1
    return paper
