"""Words, and rows of words that are cut from texts."""

WORD_SIGNS = "abcdefghijklmnopqrstuvwxyz0123456789"


def is_word(text):
    return text != "" and all([sign in WORD_SIGNS for sign in text])


def rows_of(text):
    rows = [words_in(part) for part in text.split("\n")]
    return [row for row in rows if row != []]


def words_in(part):
    # Only blanks part words here, so split() leaves no empty words over.
    parted = "".join([sign if sign in WORD_SIGNS else " " for sign in part.lower()])
    return parted.split()


def show_rows(rows):
    return "\n".join([" ".join(row) for row in rows])


def counted(rows):
    words = []
    for row in rows:
        words.extend(row)
    return sorted(tally(words).items(), key=lambda pair: (-pair[1], pair[0]))


def tally(words):
    many = {}
    for word in words:
        many[word] = many.get(word, 0) + 1
    return many
