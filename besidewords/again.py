"""Stretches of words that come again, and what stands beside them."""

from besidewords.ends import all_places, end_of, ends, shares, stretch_of
from besidewords.words import tally


def places_of(rows, stretch):
    words = list(stretch)
    return [place for place in all_places(rows) if end_of(rows, place)[:len(words)] == words]


def word_ahead(rows, place):
    return rows[place[0]][place[1] - 1] if place[1] > 0 else ""


def word_behind(rows, place, many):
    rest = end_of(rows, place)[many:]
    return rest[0] if rest != [] else ""


def is_one_word(words):
    # The text without signs stands for a missing word, which makes no stretch longer.
    return words[0] != "" and words.count(words[0]) == len(words)


def parting_stretches(rows, places):
    # Where two ends beside one another share just these words, the words behind them differ or lack.
    # So these are all stretches that come again and can't be made longer behind.
    numbers = shares(rows, places)
    found = [tuple(end_of(rows, place)[:many]) for place, many in zip(places, numbers) if many > 0]
    return sorted(set(found))


def full_stretches(rows):
    order = ends(rows)
    told = []
    for stretch in parting_stretches(rows, order):
        span = stretch_of(rows, order, list(stretch))
        places = sorted(order[span[0]:span[1]])
        if not is_one_word([word_ahead(rows, place) for place in places]):
            told.append((stretch, places))
    return told


def neighbours(rows, stretch):
    places = places_of(rows, stretch)
    ahead = [word_ahead(rows, place) for place in places]
    behind = [word_behind(rows, place, len(stretch)) for place in places]
    return (sorted(tally(ahead).items()), sorted(tally(behind).items()))
