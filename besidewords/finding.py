"""Finding by the row of ends: of the ends those alone are looked at that begin as the question does."""

from besidewords.asking import behind_parts, numbers_in
from besidewords.ends import stretch_of


def met_by_ends(rows, places, question):
    met = {}
    for parts in question:
        add_met(met, rows, places, parts)
    told = []
    for begin in sorted(met):
        told.extend([(begin[0], begin[1], to) for to in numbers_in(met[begin])])
    return told


def add_met(met, rows, places, parts):
    # Two rows of parts may meet one span, so what is met from a begin is kept by the begin.
    words = first_words(parts)
    rest = parts[len(words):]
    for row, ats in by_row(begins_of(rows, places, words)).items():
        overs = behind_parts(rest, rows[row], [1 << (at + len(words)) for at in ats])
        for at, whole in zip(ats, overs):
            met[(row, at)] = met.get((row, at), 0) | whole


def first_words(parts):
    words = []
    for part in parts:
        if part[0] != "word":
            return words
        words.append(part[1])
    return words


def begins_of(rows, places, words):
    if words == []:
        # A span without words may begin where its row is over, and no end begins there.
        return places + [(row, len(rows[row])) for row in range(len(rows))]
    stretch = stretch_of(rows, places, words)
    return places[stretch[0]:stretch[1]]


def by_row(begins):
    ats = {}
    for begin in begins:
        ats.setdefault(begin[0], []).append(begin[1])
    return ats
