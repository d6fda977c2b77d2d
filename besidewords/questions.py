"""The language of questions: reading them from a text and showing them as one."""

from besidewords.errors import NoQuestion
from besidewords.words import is_word

MOST_BRACKETS = 20
UPTOS = ("..0", "..1", "..2", "..3", "..4", "..5", "..6", "..7", "..8", "..9")


def read_question(text):
    if not isinstance(text, str):
        raise NoQuestion(0)
    tokens = tokens_of(text)
    # The questions that are not over, each standing in the one ahead of it; the last row of the last one grows.
    begun = [[[]]]
    for at, token in enumerate(tokens):
        if not can_stand(token, begun):
            raise NoQuestion(at)
        take_token(token, begun)
    if must_begin(begun) or brackets(begun) > 0:
        raise NoQuestion(len(tokens))
    return begun[0]


def tokens_of(text):
    # A line feed is no blank: it stays in its token, which has no form then.
    return [token for token in text.lower().split(" ") if token != ""]


def must_begin(begun):
    return begun[-1][-1] == []


def brackets(begun):
    return len(begun) - 1


def can_stand(token, begun):
    if token == "(":
        return brackets(begun) < MOST_BRACKETS
    if token == "|":
        return not must_begin(begun)
    if token == ")":
        return not must_begin(begun) and brackets(begun) > 0
    return part_of(token) is not None


def take_token(token, begun):
    if token == "(":
        begun.append([[]])
    elif token == "|":
        begun[-1].append([])
    elif token == ")":
        inner = begun.pop()
        begun[-1][-1].append(("in", inner))
    else:
        begun[-1][-1].append(part_of(token))


def part_of(token):
    # None stands for a token that has no part's form.
    if is_word(token):
        return ("word", token)
    if token == "?":
        return ("any",)
    if token in UPTOS:
        return ("upto", UPTOS.index(token))
    if token.endswith("*") and is_word(token[:-1]):
        return ("begin", token[:-1])
    if token.startswith("*") and is_word(token[1:]):
        return ("end", token[1:])
    return None


def show_question(question):
    return " | ".join([show_parts(parts) for parts in question])


def show_parts(parts):
    return " ".join([show_part(part) for part in parts])


def show_part(part):
    kind = part[0]
    if kind == "in":
        return "( " + show_question(part[1]) + " )"
    if kind == "any":
        return "?"
    if kind == "upto":
        return ".." + str(part[1])
    if kind == "begin":
        return part[1] + "*"
    if kind == "end":
        return "*" + part[1]
    return part[1]
