"""What several tests need: small rows, the sizes of the document, and its plain readings, written without the program.
"""

import copy
import itertools


def small_rows(most):
    """All rows of words a and b that have at most so many words and parts of rows together, and no rows."""
    yield []
    for length in range(most + 1):
        for signs in itertools.product("ab/", repeat=length):
            yield [list(part) for part in "".join(signs).split("/")]


def great_rows():
    """Rows of the greatest sizes that are named: a hundred rows, or rows of a hundred words, three hundred words."""
    hundred = [["a"] * 3 for number in range(100)]
    like = [["a"] * 100 for number in range(3)]
    turns = [["a", "b"] * 50, ["b", "a"] * 50, ["a"] * 99 + ["b"]]
    lone = [["w" + str(100 * row + at) for at in range(100)] for row in range(3)]
    uneven = [["x", "y"] * 50] + [["z"] * (number % 4) for number in range(95)] + [[], ["x"] * 50, ["y"] * 8, []]
    return [hundred, like, turns, lone, uneven]


def plain_places(rows):
    return [(row, at) for row in range(len(rows)) for at in range(len(rows[row]))]


def list_ahead(one, other):
    """Whether one list comes ahead of another: by the first things that differ, else the shorter one."""
    for left, right in zip(one, other):
        if left != right:
            return left < right
    return len(one) < len(other)


def plain_ends(rows):
    """Each place at the number of those that come ahead of it."""
    places = plain_places(rows)
    told = [None] * len(places)
    for place in places:
        number = 0
        for other in places:
            mine, its = rows[place[0]][place[1]:], rows[other[0]][other[1]:]
            if list_ahead(its, mine) or (its == mine and other < place):
                number += 1
        told[number] = place
    return told


def plain_shares(rows, places):
    told = [0][:len(places)]
    for ahead, place in zip(places, places[1:]):
        one, other = rows[ahead[0]][ahead[1]:], rows[place[0]][place[1]:]
        least = min(len(one), len(other))
        told.append(max(many for many in range(least + 1) if one[:many] == other[:many]))
    return told


def plain_comes(rows, stretch):
    many = len(stretch)
    return [(row, at) for row, at in plain_places(rows) if tuple(rows[row][at:at + many]) == stretch]


def plain_beside(rows, stretch):
    """What stands ahead of a stretch and behind it, for each of its places."""
    padded = [[""] + row + [""] for row in rows]
    places = plain_comes(rows, stretch)
    return [padded[row][at] for row, at in places], [padded[row][at + len(stretch) + 1] for row, at in places]


def all_stretches(rows):
    return {tuple(rows[row][at:high]) for row, at in plain_places(rows) for high in range(at + 1, len(rows[row]) + 1)}


def plain_full(rows):
    told = []
    for stretch in sorted(all_stretches(rows)):
        places = plain_comes(rows, stretch)
        longer = any(set(words) != {""} and len(set(words)) == 1 for words in plain_beside(rows, stretch))
        if len(places) >= 2 and not longer:
            told.append((stretch, places))
    return told


def spoil(value):
    """Changes every list in a value, however deep."""
    if isinstance(value, (list, tuple)):
        for thing in value:
            spoil(thing)
    if isinstance(value, list):
        value.reverse()
        value.append("spoilt")


def check_own(test, function, *handed):
    """Point 2: what is handed in stays as it was, and what is told is the asker's own."""
    before = copy.deepcopy(handed)
    first = function(*handed)
    told = copy.deepcopy(first)
    test.assertEqual(handed, before)
    spoil(first)
    test.assertEqual(handed, before, "a change of what was told changes what was handed in")
    second = function(*handed)
    test.assertEqual(second, told, "a change of what was told changes what is told later")
    spoil(handed)
    test.assertEqual(second, told, "a change of what was handed in changes what was told")
    test.assertEqual(function(*before), told)
