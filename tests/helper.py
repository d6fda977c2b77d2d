"""What several tests need: small rows, the sizes of the document, and its plain readings, written without the program.
"""

import contextlib
import copy
import itertools
import re
import signal

from besidewords.errors import BesideError, NoDeed, NoQuestion, NoText, NoWay, Twice

STEPS = [(1, 1), (1, 2), (2, 1), (1, 0), (0, 1)]


def small_rows(most):
    """All rows of words a and b that have at most so many words and parts of rows together, and no rows."""
    yield []
    for length in range(most + 1):
        for signs in itertools.product("ab/", repeat=length):
            yield [list(part) for part in "".join(signs).split("/")]


def great_rows():
    """Rows of the greatest sizes that are named: a hundred rows, or rows of a hundred words, three hundred words."""
    hundred = [["a"] * 3 for number in range(100)]
    like = [["a"] * 100 for number in range(3)]
    turns = [["a", "b"] * 50, ["b", "a"] * 50, ["a"] * 99 + ["b"]]
    lone = [["w" + str(100 * row + at) for at in range(100)] for row in range(3)]
    uneven = [["x", "y"] * 50] + [["z"] * (number % 4) for number in range(95)] + [[], ["x"] * 50, ["y"] * 8, []]
    return [hundred, like, turns, lone, uneven]


def plain_places(rows):
    return [(row, at) for row in range(len(rows)) for at in range(len(rows[row]))]


def list_ahead(one, other):
    """Whether one list comes ahead of another: by the first things that differ, else the shorter one."""
    for left, right in zip(one, other):
        if left != right:
            return left < right
    return len(one) < len(other)


def plain_ends(rows):
    """Each place at the number of those that come ahead of it."""
    places = plain_places(rows)
    told = [None] * len(places)
    for place in places:
        number = 0
        for other in places:
            mine, its = rows[place[0]][place[1]:], rows[other[0]][other[1]:]
            if list_ahead(its, mine) or (its == mine and other < place):
                number += 1
        told[number] = place
    return told


def plain_shares(rows, places):
    told = [0][:len(places)]
    for ahead, place in zip(places, places[1:]):
        one, other = rows[ahead[0]][ahead[1]:], rows[place[0]][place[1]:]
        least = min(len(one), len(other))
        told.append(max(many for many in range(least + 1) if one[:many] == other[:many]))
    return told


def plain_comes(rows, stretch):
    many = len(stretch)
    return [(row, at) for row, at in plain_places(rows) if tuple(rows[row][at:at + many]) == stretch]


def plain_beside(rows, stretch):
    """What stands ahead of a stretch and behind it, for each of its places."""
    padded = [[""] + row + [""] for row in rows]
    places = plain_comes(rows, stretch)
    return [padded[row][at] for row, at in places], [padded[row][at + len(stretch) + 1] for row, at in places]


def all_stretches(rows):
    return {tuple(rows[row][at:high]) for row, at in plain_places(rows) for high in range(at + 1, len(rows[row]) + 1)}


def plain_full(rows):
    told = []
    for stretch in sorted(all_stretches(rows)):
        places = plain_comes(rows, stretch)
        longer = any(set(words) != {""} and len(set(words)) == 1 for words in plain_beside(rows, stretch))
        if len(places) >= 2 and not longer:
            told.append((stretch, places))
    return told


def plain_meets(question, row, low, high):
    """Point 19, word for word: every way to cut the span is tried."""
    return any(plain_row_meets(parts, row, low, high) for parts in question)


def plain_row_meets(parts, row, low, high):
    if not parts:
        return low == high
    return any(plain_part_meets(parts[0], row, low, cut) and plain_row_meets(parts[1:], row, cut, high)
               for cut in range(low, high + 1))


def plain_part_meets(part, row, low, high):
    words = row[low:high]
    if part[0] == "in":
        return plain_meets(part[1], row, low, high)
    if part[0] == "upto":
        return len(words) <= part[1]
    if len(words) != 1:
        return False
    if part[0] == "any":
        return True
    length = len(part[1])
    return {"word": words[0], "begin": words[0][:length], "end": words[0][-length:]}[part[0]] == part[1]


def plain_spans(question, row):
    numbers = range(len(row) + 1)
    return [(low, high) for low in numbers for high in numbers if low <= high and plain_meets(question, row, low, high)]


def plain_found(rows, question):
    return [(number, low, high) for number, row in enumerate(rows) for low, high in plain_spans(question, row)]


def met_lengths(question, most):
    """How many words a question of any, upto and in alone may meet, up to so many."""
    told = set()
    for parts in question:
        lengths = {0}
        for part in parts:
            if part[0] == "in":
                its = met_lengths(part[1], most)
            else:
                its = {1} if part[0] == "any" else set(range(part[1] + 1))
            lengths = {one + other for one in lengths for other in its if one + other <= most}
        told |= lengths
    return told


PARTS = [("word", "a"), ("word", "ab"), ("begin", "a"), ("end", "b"), ("any",), ("upto", 0), ("upto", 1), ("upto", 2)]
WORDS = ["a", "b", "ab", "ba"]


def small_questions():
    """All questions of one or two parts, choices of two parts, and brackets around these, alone and beside a part."""
    rows_of_parts = [[part] for part in PARTS] + [[one, other] for one in PARTS for other in PARTS]
    for parts in rows_of_parts:
        yield [parts]
        yield [[("in", [parts])]]
    for one in PARTS:
        for other in PARTS:
            choice = ("in", [[one], [other]])
            yield [[one], [other]]
            yield [[choice, ("any",)]]
            yield [[("any",), choice], [choice, choice]]


def chance_question(chance, depth):
    """A question by a seeded source of chance, with brackets at most so deep."""
    return [[chance_part(chance, depth) for number in range(chance.choice((1, 1, 2, 3)))]
            for choice in range(chance.choice((1, 1, 1, 2, 3)))]


def chance_part(chance, depth):
    if depth > 0 and chance.random() < 0.3:
        return ("in", chance_question(chance, depth - 1))
    return chance.choice(PARTS + [("begin", "b"), ("end", "a"), ("upto", 3), ("upto", 9)])


def nested(depth, part=("any",)):
    """A question with a part in so many brackets."""
    question = [[part]]
    for number in range(depth):
        question = [[("in", question)]]
    return question


def great_texts():
    """Questions of about three hundred tokens with many uptos and brackets, of which many cut a span in many ways."""
    return [
        " ".join(["..9"] * 300), " ".join(["..1"] * 300), " | ".join(["..9"] * 150), " ".join(["..9", "?"] * 50),
        " ".join(["( ..1 | ? )"] * 60), " ".join(["( ..9 ..9 | ( ..9 ) )"] * 33), "( " * 20 + "..9 " * 260 + ") " * 20,
        "( ..1 ( ..2 | " * 10 + " ".join(["? | ..1"] * 20) + " ) ..3 )" * 10,
        " | ".join([" ".join(["..9"] * 11)] * 25), " | ".join(["( ? | ..2 ) ( ..3 | ? ? )"] * 23)]


def plain_price(lefts, rights, prices, pairs):
    """Point 23, word for word."""
    one, two, none, slope, lone = prices
    left_words, right_words = sum(lefts, []), sum(rights, [])
    fixed = {2: one, 3: two, 1: none}[len(lefts) + len(rights)]
    many = sum(all((left, right) not in pairs for right in right_words) for left in left_words)
    many += sum(all((left, right) not in pairs for left in left_words) for right in right_words)
    return fixed + slope * abs(len(left_words) - len(right_words)) + lone * many


def plain_way_price(lefts, rights, prices, pairs, steps):
    if not steps:
        return 0
    left, right = steps[0]
    first = plain_price(lefts[:left], rights[:right], prices, pairs)
    return first + plain_way_price(lefts[left:], rights[right:], prices, pairs, steps[1:])


def all_ways(many, others):
    """All ways of so many left and right rows."""
    if (many, others) == (0, 0):
        return [[]]
    told = []
    for left, right in STEPS:
        if left <= many and right <= others:
            told += [[(left, right)] + rest for rest in all_ways(many - left, others - right)]
    return told


def plain_rows(text):
    rows = [re.findall("[a-z0-9]+", part.lower()) for part in text.split("\n")]
    return [row for row in rows if row]


def plain_together(texts):
    """Of texts by names: where each row of them comes from, and the rows, in the order of places in a book."""
    named = [((name, number), row) for name in sorted(texts) for number, row in enumerate(plain_rows(texts[name]))]
    return [origin for origin, row in named], [row for origin, row in named]


def plain_book_ends(texts):
    """All ends of a book in order, each a tuple (end, place)."""
    origins, rows = plain_together(texts)
    return sorted((row[at:], origin + (at,)) for origin, row in zip(origins, rows) for at in range(len(row)))


def plain_book(texts):
    """What a book of these texts tells of itself."""
    told = plain_book_ends(texts)
    origins, rows = plain_together(texts)
    in_common = [max(many for many in range(len(one) + 1) if one[:many] == other[:many])
                 for (one, place), (other, behind) in zip(told, told[1:])]
    full = [(stretch, [origins[row] + (at,) for row, at in places]) for stretch, places in plain_full(rows)]
    return {"names": sorted(texts), "rows": {name: plain_rows(text) for name, text in texts.items()},
            "ends": [place for end, place in told], "shares": [0][:len(told)] + in_common, "full_stretches": full}


def plain_book_found(texts, question):
    return [(name,) + met for name in sorted(texts) for met in plain_found(plain_rows(texts[name]), question)]


def plain_book_numbers(texts, name):
    return [number for number, (end, place) in enumerate(plain_book_ends(texts)) if place[0] == name]


@contextlib.contextmanager
def good_time(seconds):
    """Fails what is not over by then: a way that tries all cuts would take longer than anyone waits."""
    def late(number, frame):
        raise AssertionError(f"not answered in {seconds} seconds")
    before = signal.signal(signal.SIGALRM, late)
    signal.alarm(seconds)
    try:
        yield
    finally:
        signal.alarm(0)
        signal.signal(signal.SIGALRM, before)


def spoil(value):
    """Changes every list in a value, however deep."""
    if isinstance(value, (list, tuple)):
        for thing in value:
            spoil(thing)
    if isinstance(value, list):
        value.reverse()
        value.append("spoilt")


def check_own(test, function, *handed):
    """Point 2: what is handed in stays as it was, and what is told is the asker's own."""
    before = copy.deepcopy(handed)
    first = function(*handed)
    told = copy.deepcopy(first)
    test.assertEqual(handed, before)
    spoil(first)
    test.assertEqual(handed, before, "a change of what was told changes what was handed in")
    second = function(*handed)
    test.assertEqual(second, told, "a change of what was told changes what is told later")
    spoil(handed)
    test.assertEqual(second, told, "a change of what was handed in changes what was told")
    test.assertEqual(function(*before), told)


def check_refused(test, refusal, function, *handed):
    """That it is refused with this class, which no other one of the refusals is; told is the refusal."""
    with test.assertRaises(refusal, msg=repr(handed)) as caught:
        function(*handed)
    for above in (BesideError, ValueError):
        test.assertIsInstance(caught.exception, above)
    for other in {NoQuestion, NoWay, Twice, NoText, NoDeed} - {refusal}:
        test.assertNotIsInstance(caught.exception, other)
    return caught.exception
