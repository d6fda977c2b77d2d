"""Two tongues: what stands beside what, by a way."""

from besidewords.asking import spans


def links(steps):
    told = []
    left = 0
    right = 0
    for step in steps:
        told.append((list(range(left, left + step[0])), list(range(right, right + step[1]))))
        left = left + step[0]
        right = right + step[1]
    return told


def beside(lefts, rights, steps, one, other):
    told = []
    for left_rows, right_rows in links(steps):
        if any([spans(other, rights[right]) != [] for right in right_rows]):
            for left in left_rows:
                told.extend([(left, span[0], span[1]) for span in spans(one, lefts[left])])
    return told
