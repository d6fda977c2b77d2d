"""The price of a step, which lays rows of two texts beside one another, and of a way of steps."""

from besidewords.errors import NoWay

# Each step, and which of the prices it has whatever words are in its rows.
STEPS = {(1, 1): 0, (1, 2): 1, (2, 1): 1, (1, 0): 2, (0, 1): 2}
SLOPE = 3
LONE = 4


def price(lefts, rights, prices, pairs):
    return step_price(lefts, rights, prices, by_pair(pairs))


def way_price(lefts, rights, prices, pairs, steps):
    if not is_way(lefts, rights, steps):
        raise NoWay("these steps do not take just all rows of both texts")
    paired = by_pair(pairs)
    left = 0
    right = 0
    total = 0
    for step in steps:
        rows = lefts[left:left + step[0]]
        beside = rights[right:right + step[1]]
        total = total + step_price(rows, beside, prices, paired)
        left = left + step[0]
        right = right + step[1]
    return total


def is_way(lefts, rights, steps):
    if not all([step in STEPS for step in steps]):
        return False
    taken = (sum([step[0] for step in steps]), sum([step[1] for step in steps]))
    return taken == (len(lefts), len(rights))


def by_pair(pairs):
    # A dict finds a pair at once, however many there are.
    paired = {}
    for pair in pairs:
        paired[pair] = True
    return paired


def step_price(lefts, rights, prices, paired):
    left_words = words_of(lefts)
    right_words = words_of(rights)
    fixed = prices[STEPS[(len(lefts), len(rights))]]
    sloping = prices[SLOPE] * abs(len(left_words) - len(right_words))
    return fixed + sloping + prices[LONE] * lone_words(left_words, right_words, paired)


def words_of(rows):
    words = []
    for row in rows:
        words.extend(row)
    return words


def lone_words(lefts, rights, paired):
    with_left = {}
    with_right = {}
    for left in lefts:
        for right in rights:
            if (left, right) in paired:
                with_right[left] = True
                with_left[right] = True
    lone_lefts = [word for word in lefts if word not in with_right]
    lone_rights = [word for word in rights if word not in with_left]
    return len(lone_lefts) + len(lone_rights)
