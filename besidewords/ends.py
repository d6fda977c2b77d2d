"""The row of ends: all places, in the order of what their rows still have from there on."""


def all_places(rows):
    places = []
    for row, words in enumerate(rows):
        for at in range(len(words)):
            places.append((row, at))
    return places


def end_of(rows, place):
    return rows[place[0]][place[1]:]


def order_of(rows, place):
    # The place settles the order of like ends.
    return (end_of(rows, place), place)


def ends(rows):
    return sorted(all_places(rows), key=lambda place: order_of(rows, place))


def in_common(one, other):
    many = 0
    for word, beside in zip(one, other):
        if word != beside:
            return many
        many = many + 1
    return many


def shares(rows, places):
    # The first place has none ahead of it, as if an end without words stood there.
    told = []
    ahead = []
    for place in places:
        end = end_of(rows, place)
        told.append(in_common(ahead, end))
        ahead = end
    return told


def stretch_of(rows, places, words):
    low = first_behind(rows, places, lambda end: end < words)
    high = first_behind(rows, places, lambda end: end[:len(words)] <= words)
    return (low, high)


def first_behind(rows, places, is_ahead):
    # is_ahead holds for the ends up to some number and for none from there on, so halving finds that number.
    low = 0
    high = len(places)
    while low < high:
        middle = (low + high) // 2
        if is_ahead(end_of(rows, places[middle])):
            low = middle + 1
        else:
            high = middle
    return low


def is_row_of_ends(rows, places, numbers):
    # Places that rise strictly are all different: so where they are as many as the words, none lacks.
    if len(places) != sum([len(row) for row in rows]):
        return False
    for number in range(1, len(places)):
        if order_of(rows, places[number - 1]) >= order_of(rows, places[number]):
            return False
    return numbers == shares(rows, places)
