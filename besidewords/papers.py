"""Papers: for the first rows of two texts the least price of a way and how many ways have it; and a cheapest way."""

from besidewords.prices import STEPS, by_pair, step_price


def paper(lefts, rights, prices, pairs):
    paired = by_pair(pairs)
    table = []
    for left in range(len(lefts) + 1):
        table.append([])
        for right in range(len(rights) + 1):
            table[left].append(entry(lefts[:left], rights[:right], prices, paired, table))
    return table


def is_paper(lefts, rights, prices, pairs, table):
    # Each place is right where those ahead of it are and it goes with them: so where all places go so, all are right.
    if [len(entries) for entries in table] != [len(rights) + 1 for left in range(len(lefts) + 1)]:
        return False
    paired = by_pair(pairs)
    for left, entries in enumerate(table):
        for right, told in enumerate(entries):
            if told != entry(lefts[:left], rights[:right], prices, paired, table):
                return False
    return True


def cheapest(lefts, rights, prices, pairs):
    paired = by_pair(pairs)
    table = paper(lefts, rights, prices, pairs)
    left = len(lefts)
    right = len(rights)
    steps = []
    while (left, right) != (0, 0):
        step = last_step(last_steps(lefts[:left], rights[:right], prices, paired, table))
        steps.append(step)
        left = left - step[0]
        right = right - step[1]
    return list(reversed(steps))


def entry(lefts, rights, prices, paired, table):
    if lefts == [] and rights == []:
        # The way without steps.
        return (0, 1)
    found = last_steps(lefts, rights, prices, paired, table)
    least = min([total for step, total, many in found])
    return (least, sum([many for step, total, many in found if total == least]))


def last_step(found):
    # Of like prices the first in the order of STEPS, so that the way is the same each time.
    return min(found, key=lambda ending: ending[1])[0]


def last_steps(lefts, rights, prices, paired, table):
    # For each step that may end a way for these rows: the step, the least price of such a way, how many have it.
    # What the table holds for fewer rows is all that is asked of it.
    found = []
    for step in STEPS:
        left = len(lefts) - step[0]
        right = len(rights) - step[1]
        if left >= 0 and right >= 0:
            ahead = table[left][right]
            total = ahead[0] + step_price(lefts[left:], rights[right:], prices, paired)
            found.append((step, total, ahead[1]))
    return found
