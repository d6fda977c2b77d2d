"""Asking: the spans of rows that a question meets."""

# Numbers of a row are kept together as the bits of one whole number, so that one step moves them all. In a list of such
# wholes each one belongs to one begin and holds where the next part may begin. What is met from several numbers is what
# is met from each of them, taken together: so each part is looked at once, in however many ways a span can be cut.


def spans(question, row):
    begins = [1 << at for at in range(len(row) + 1)]
    told = []
    for at, overs in enumerate(behind_question(question, row, begins)):
        told.extend([(at, to) for to in numbers_in(overs)])
    return told


def all_met(rows, question):
    told = []
    for number, row in enumerate(rows):
        told.extend([(number, span[0], span[1]) for span in spans(question, row)])
    return told


def numbers_in(whole):
    return [number for number in range(whole.bit_length()) if (whole >> number) & 1 == 1]


def united(wholes, others):
    return [whole | other for whole, other in zip(wholes, others)]


def behind_question(question, row, wholes):
    met = [0 for whole in wholes]
    for parts in question:
        met = united(met, behind_parts(parts, row, wholes))
    return met


def behind_parts(parts, row, wholes):
    for part in parts:
        wholes = behind_part(part, row, wholes)
    return wholes


def behind_part(part, row, wholes):
    if part[0] == "in":
        return behind_question(part[1], row, wholes)
    if part[0] == "upto":
        return behind_upto(part[1], row, wholes)
    return behind_word(fitting(part, row), wholes)


def behind_upto(most, row, wholes):
    every = fitting(("any",), row)
    for more in range(most):
        wholes = united(wholes, behind_word(every, wholes))
    return wholes


def behind_word(places, wholes):
    return [(whole & places) << 1 for whole in wholes]


def fitting(part, row):
    places = 0
    for at, word in enumerate(row):
        if fits(part, word):
            places = places | (1 << at)
    return places


def fits(part, word):
    kind = part[0]
    if kind == "begin":
        return word.startswith(part[1])
    if kind == "end":
        return word.endswith(part[1])
    return kind == "any" or word == part[1]
