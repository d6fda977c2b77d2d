"""Points 16 to 18, and point 2 for them: read_question, show_question, NoQuestion."""

import functools
import itertools
import random
import re
import unittest

from besidewords.errors import BesideError, NoDeed, NoQuestion, NoText, NoWay, Twice
from besidewords.questions import read_question, show_question
from tests.helper import chance_question, check_own, good_time, great_texts, nested, small_questions

FORM = re.compile(r"[a-z0-9]+\*?|\*[a-z0-9]+|\?|\.\.[0-9]|[|()]")

ALONE = [
    ("mill", ("word", "mill")), ("7", ("word", "7")), ("a1", ("word", "a1")), ("007", ("word", "007")),
    ("mi*", ("begin", "mi")), ("7*", ("begin", "7")), ("*ll", ("end", "ll")), ("*0", ("end", "0")), ("?", ("any",)),
    ("..0", ("upto", 0)), ("..1", ("upto", 1)), ("..2", ("upto", 2)), ("..3", ("upto", 3)), ("..4", ("upto", 4)),
    ("..5", ("upto", 5)), ("..6", ("upto", 6)), ("..7", ("upto", 7)), ("..8", ("upto", 8)), ("..9", ("upto", 9)),
    ("( mill )", ("in", [[("word", "mill")]])),
    # The kinds' own names are words like others.
    ("in", ("word", "in")), ("any", ("word", "any")), ("upto", ("word", "upto")), ("word", ("word", "word"))]

WRITTEN = [
    ("the mill", [[("word", "the"), ("word", "mill")]]),
    ("the | mill", [[("word", "the")], [("word", "mill")]]),
    ("the ? mi* | *ll ..3 | a", [[("word", "the"), ("any",), ("begin", "mi")], [("end", "ll"), ("upto", 3)],
                                 [("word", "a")]]),
    ("( the | a ) mill", [[("in", [[("word", "the")], [("word", "a")]]), ("word", "mill")]]),
    ("a ( b ) | ( c ) d", [[("word", "a"), ("in", [[("word", "b")]])], [("in", [[("word", "c")]]), ("word", "d")]]),
    ("( a ) ( a )", [[("in", [[("word", "a")]]), ("in", [[("word", "a")]])]]),
    ("( ( a | ? ) ..0 | ( b ) )", [[("in", [[("in", [[("word", "a")], [("any",)]]), ("upto", 0)],
                                            [("in", [[("word", "b")]])]])]]),
    ("a | a", [[("word", "a")], [("word", "a")]])]


def refused_at(text):
    """The field at of the refusal, or None where the text is a question."""
    try:
        read_question(text)
    except NoQuestion as refusal:
        return refusal.at
    return None


@functools.cache
def written(kind, many):
    """All questions, rows of parts or parts of just so many tokens, of words a alone, as tuples of tokens."""
    if kind == "part":
        return [("a",)] if many == 1 else [("(",) + inner + (")",) for inner in written("question", many - 2)]
    if many < 1:
        return []
    piece, between = ("part", ()) if kind == "parts" else ("parts", ("|",))
    told = list(written(piece, many))
    for size in range(1, many - len(between)):
        rests = written(kind, many - size - len(between))
        told += [first + between + rest for first in written(piece, size) for rest in rests]
    return told


class Reading(unittest.TestCase):
    def test_each_kind_of_part_alone(self):
        for text, part in ALONE:
            self.assertEqual(read_question(text), [[part]])

    def test_rows_of_parts_and_choices(self):
        for text, question in WRITTEN:
            self.assertEqual(read_question(text), question)

    def test_brackets_up_to_twenty_deep(self):
        for depth in range(21):
            text = "( " * depth + "?" + " )" * depth
            self.assertEqual(read_question(text), nested(depth))
            self.assertEqual(show_question(nested(depth)), text)

    def test_brackets_that_are_shut_count_no_more(self):
        deep = "( " * 20 + "a" + " )" * 20
        self.assertEqual(read_question(deep + " " + deep + " | " + deep),
                         [nested(20, ("word", "a"))[0] * 2, nested(20, ("word", "a"))[0]])
        text = "( " * 19 + "( a ) ( b )" + " )" * 19
        self.assertEqual(show_question(read_question(text)), text)

    def test_great_letters(self):
        self.assertEqual(read_question("The MILL Mi* *LL ( A | Z9 )"), read_question("the mill mi* *ll ( a | z9 )"))
        self.assertEqual(read_question("ABCDEFGHIJKLMNOPQRSTUVWXYZ"), [[("word", "abcdefghijklmnopqrstuvwxyz")]])

    def test_blanks_more_ahead_and_at_the_end(self):
        for text, question in WRITTEN:
            for blanks in (" ", "  ", "     "):
                tokens = text.split(" ")
                self.assertEqual(read_question(blanks.join(tokens)), question)
                self.assertEqual(read_question(blanks + text), question)
                self.assertEqual(read_question(text + blanks), question)
                self.assertEqual(read_question(blanks + blanks.join(tokens) + blanks), question)

    def test_many_tokens(self):
        for many in (300, 301, 5000):
            self.assertEqual(read_question(" ".join(["a"] * many)), [[("word", "a")] * many])
        self.assertEqual(read_question(" | ".join(["a"] * 2500)), [[("word", "a")]] * 2500)
        self.assertEqual(refused_at("a " * 4999 + "!"), 4999)

    def test_what_is_told_is_the_askers_own(self):
        for text, question in WRITTEN:
            check_own(self, read_question, text)

    def test_like_rows_and_brackets_are_not_one_list(self):
        question = read_question("( a ) ( a ) | ( a )")
        lists = [question] + question + [part[1] for parts in question for part in parts]
        lists += [part[1][0] for parts in question for part in parts]
        self.assertEqual(len({id(one) for one in lists}), 9)


class Refusing(unittest.TestCase):
    def check(self, text, at):
        with self.assertRaises(NoQuestion, msg=repr(text)) as caught:
            read_question(text)
        self.assertIs(caught.exception.at.__class__, int)
        self.assertEqual(caught.exception.at, at, repr(text))

    def test_a_token_of_no_form(self):
        for token in (
                "*", "**", "*a*", "a*b", "**a", "a**", "..", ".", "...", "..10", "..00", "..01", "..a", "..-1", "..*",
                "1..", "a..1", "...1", ".1", "??", "a?", "?a", "?*", "*?", "||", "a|", "|a", "()", "(a", "a)", "((",
                "))", "-", "a-b", "it's", "a,", "a.", "!", "~", "a\n", "\na", "a\nb", "\n", "a_b", "..1\n", "?\n"):
            self.check(token, 0)
            self.check(token + " a", 0)
            self.check("a " + token, 1)
            self.check("a  |  b ( " + token + " c )", 4)
            self.check("( ( a ) " + token + " ) |", 4)

    def test_all_small_tokens(self):
        for many in (1, 2, 3, 4):
            for signs in itertools.product("a1*?.|(-\n", repeat=many):
                token = "".join(signs)
                told = 0 if not FORM.fullmatch(token) or token == "|" else 1 if token == "(" else None
                self.assertEqual(refused_at(token), told, repr(token))

    def test_every_other_sign(self):
        for number in range(33, 127):
            sign = chr(number)
            if not re.fullmatch(r"[A-Za-z0-9?|()]", sign):
                self.check(sign, 0)
            if not re.fullmatch(r"[A-Za-z0-9*]", sign):
                self.check("b a" + sign, 1)
                self.check("b " + sign + "a", 1)

    def test_a_line_feed_parts_no_tokens(self):
        self.check("a\nb", 0)
        self.check("a b\n| c", 1)
        self.check("a \n b", 1)

    def test_where_a_part_must_begin(self):
        for token in ("|", ")"):
            self.check(token, 0)
            self.check(token + " a", 0)
            self.check("a | " + token, 2)
            self.check("a | " + token + " b", 2)
            self.check("( " + token, 1)
            self.check("( " + token + " a )", 1)
            self.check("a ( b | " + token + " )", 4)
            self.check("( a ) ( " + token, 4)

    def test_a_bracket_shut_that_is_not_open(self):
        self.check("a )", 1)
        self.check("a ) )", 1)
        self.check("( a ) )", 3)
        self.check("( a ) b | c )", 6)
        self.check("a | b ) c", 3)

    def test_the_twenty_first_bracket(self):
        for depth in (21, 22, 40, 2000):
            self.check("( " * depth + "a" + " )" * depth, 20)
        self.check("a " + "( " * 21 + "a" + " )" * 21, 21)
        self.check("( a ) " + "( " * 19 + "b ( c ) ( ( d ) )" + " )" * 19, 27)
        self.check("( " * 20 + "(", 20)

    def test_the_tokens_end_too_early(self):
        for text, at in (("a |", 2), ("a | b |", 4), ("( a", 2), ("( a | b", 4), ("(", 1), ("( (", 2), ("( a |", 3),
                         ("( ( a )", 4), ("a ( b", 3), ("( a ) |", 4), ("a | (", 3), ("( " * 20, 20)):
            self.check(text, at)
            self.check("  " + text.replace(" ", "   ") + "  ", at)

    def test_no_tokens(self):
        for text in ("", " ", "  ", " " * 10000):
            self.check(text, 0)

    def test_what_is_no_text(self):
        for value in (None, True, False, 0, 7, 1.5, b"a", [], ["a"], ("a",), {}, {"a": 1}, {"a"}, [[("word", "a")]],
                      object(), str, bytearray(b"a")):
            self.check(value, 0)

    def test_the_first_fault_is_told(self):
        self.check("a ) ! |", 1)
        self.check("a ! )", 1)
        self.check("( a | ) !", 3)
        self.check("| !", 0)

    def test_all_rows_of_a_few_tokens(self):
        # Each token that can stand begins what some question goes on with: five tokens are over by eleven.
        questions = {told for many in range(1, 12) for told in written("question", many)}
        begins = {question[:many] for question in questions for many in range(6)}
        for many in range(6):
            for tokens in itertools.product(("a", "|", "(", ")", "-"), repeat=many):
                wrong = [number for number in range(many) if tokens[:number + 1] not in begins]
                told = wrong[0] if wrong else None if tokens in questions else many
                self.assertEqual(refused_at(" ".join(tokens)), told, tokens)

    def test_what_takes_the_refusal(self):
        for text in ("", "a )", "!", None):
            for taken in (NoQuestion, BesideError, ValueError):
                with self.assertRaises(taken):
                    read_question(text)
            with self.assertRaises(NoQuestion) as caught:
                read_question(text)
            self.assertNotIsInstance(caught.exception, (NoWay, Twice, NoText, NoDeed))

    def test_a_refusal_leaves_nothing_behind(self):
        self.check("( ( a |", 4)
        self.assertEqual(read_question("a"), [[("word", "a")]])


class Showing(unittest.TestCase):
    def test_each_kind_of_part_alone(self):
        for text, part in ALONE:
            self.assertEqual(show_question([[part]]), text)

    def test_rows_of_parts_and_choices(self):
        for text, question in WRITTEN:
            self.assertEqual(show_question(question), text)

    def test_what_is_shown_is_read_again_as_the_same_question(self):
        chance = random.Random(16)
        questions = list(small_questions()) + [chance_question(chance, 4) for number in range(500)]
        for question in questions + [nested(depth, ("upto", depth % 10)) for depth in range(21)]:
            self.assertEqual(read_question(show_question(question)), question)

    def test_great_sizes(self):
        with good_time(30):
            for text in great_texts():
                self.assertEqual(show_question(read_question(text)), " ".join(text.split()))

    def test_somewhat_beyond_what_is_named(self):
        self.assertEqual(show_question([[("upto", 12)]]), "..12")
        self.assertEqual(show_question(nested(25)), "( " * 25 + "?" + " )" * 25)
        self.assertEqual(show_question([[("word", "a")] * 400]), " ".join(["a"] * 400))

    def test_what_is_handed_in_stays(self):
        for text, question in WRITTEN:
            check_own(self, show_question, read_question(text))


if __name__ == "__main__":
    unittest.main()
