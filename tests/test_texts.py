"""Promises [2] and [3], and the interface, ownglass/texts.py."""

import itertools
import unittest

from ownglass.errors import BadText
from ownglass.texts import read_value, same_values, write_value

BLANKS = ("", " ", "\n", "   ", "\n\n", " \n \n  ")
TWELVE = "abcdefghijk1"


def nested(depth, bottom="a"):
    """A value with so many lists around its bottom."""
    value = bottom
    for _ in range(depth):
        value = (value,)
    return value


def wide_and_deep(depth, width):
    """A value nested so deep, of a word and an empty list by turns at each depth."""
    value = ()
    for _ in range(depth - 1):
        value = ("w1", ()) * (width // 2) + (value,)
    return value


# Each value with its text.
PAIRS = (
    ("a", "a"),
    ("z9", "z9"),
    ("yes", "yes"),
    (TWELVE, TWELVE),
    ("z00000000000", "z00000000000"),
    ((), "()"),
    (("a",), "(a)"),
    (("a", "b"), "(a b)"),
    (((),), "(())"),
    (((), ()), "(() ())"),
    (("a", ("b",), "c"), "(a (b) c)"),
    ((("a", "b"), "c", ("d", ("e", ()))), "((a b) c (d (e ())))"),
    (("quote", "quote", TWELVE), "(quote quote abcdefghijk1)"),
    ((("main", ("x",), ("head", "x")),), "((main (x) (head x)))"),
    (nested(200), "(" * 200 + "a" + ")" * 200),
    (nested(200, ()), "(" * 201 + ")" * 201),
    (nested(260, ("a", "b")), "(" * 261 + "a b" + ")" * 261),
)


class WriteTest(unittest.TestCase):
    def test_values_are_written(self):
        for value, text in PAIRS:
            self.assertEqual(write_value(value), text)

    def test_words_of_each_length(self):
        for length in range(1, 13):
            for word in (TWELVE[:length], "z9876543210z"[:length]):
                self.assertEqual(write_value(word), word)
                self.assertEqual(write_value((word, word)), f"({word} {word})")

    def test_the_text_is_a_str(self):
        for value, _ in PAIRS:
            self.assertIs(type(write_value(value)), str)

    def test_many_parts(self):
        self.assertEqual(write_value(("a",) * 199999), "(" + "a " * 199998 + "a)")
        self.assertEqual(write_value(((),) * 199999), "(" + "() " * 199998 + "())")

    def test_shared_items_are_written_each_time(self):
        item = ("a", ())
        self.assertEqual(write_value((item, item, (item,))), "((a ()) (a ()) ((a ())))")


class ReadTest(unittest.TestCase):
    def check_kinds(self, value):
        """A value is of str and tuple alone, at each depth."""
        waiting = [value]
        while waiting:
            part = waiting.pop()
            self.assertIn(type(part), (str, tuple))
            if type(part) is tuple:
                waiting.extend(part)

    def check_read(self, text, value):
        answer = read_value(text)
        self.check_kinds(answer)
        self.assertTrue(answer == value, text)

    def test_texts_are_read(self):
        for value, text in PAIRS:
            self.check_read(text, value)

    def test_words_of_each_length(self):
        for length in range(1, 13):
            for word in (TWELVE[:length], "z9876543210z"[:length]):
                self.check_read(word, word)
                self.check_read(f"({word})", (word,))
                self.check_read(f"({word} ({word}))", (word, (word,)))

    def test_each_sign_of_a_word(self):
        for sign in "abcdefghijklmnopqrstuvwxyz":
            self.check_read(sign, sign)
            self.check_read("a" + sign, "a" + sign)
        for sign in "0123456789":
            self.check_read("a" + sign, "a" + sign)

    def test_blanks_everywhere(self):
        for value, text in PAIRS[:14]:
            signs = text.replace("(", " ( ").replace(")", " ) ").split()
            for blank in BLANKS[1:]:
                self.check_read(blank + blank.join(signs) + blank, value)
                self.check_read(blank + text, value)
                self.check_read(text + blank, value)

    def test_each_place_with_each_blank(self):
        for first, second, third, fourth, fifth in itertools.product(BLANKS, repeat=5):
            text = f"{first}({second}a{third}({fourth}){fifth})\n"
            self.check_read(text, ("a", ()))

    def test_between_words_one_blank_or_more(self):
        for blank in BLANKS[1:]:
            self.check_read(f"(a{blank}b{blank}c)", ("a", "b", "c"))

    def test_no_blanks_where_none_is_needed(self):
        self.check_read("(a(b)c)", ("a", ("b",), "c"))
        self.check_read("((a)(b))", (("a",), ("b",)))
        self.check_read("(a()b)", ("a", (), "b"))
        self.check_read("(()()(()))", ((), (), ((),)))
        self.check_read("(abcdefghijkl(mnopqrstuvwx)y1)", ("abcdefghijkl", ("mnopqrstuvwx",), "y1"))

    def test_two_texts_make_two_values(self):
        self.assertEqual(read_value("(a)"), ("a",))
        self.assertEqual(read_value("(b)"), ("b",))
        self.assertEqual(read_value("(a)"), ("a",))

    def test_many_parts(self):
        value = wide_and_deep(200, 900)
        text = write_value(value)
        self.assertEqual(text.count("(") + text.count("w1"), 199 * 901 + 1)
        self.check_read(text, value)
        self.check_read("(" + "a\n" * 199999 + ")", ("a",) * 199999)
        self.check_read("(" + "()" * 199999 + ")", ((),) * 199999)

    def test_many_blanks(self):
        blanks = " \n" * 100000
        self.check_read(f"{blanks}({blanks}a{blanks}b{blanks}){blanks}", ("a", "b"))


class WrongTextTest(unittest.TestCase):
    def check_place(self, text, place):
        with self.assertRaises(BadText) as caught:
            read_value(text)
        self.assertEqual(caught.exception.place, place, text)

    def check_within(self, ahead, wrong, place, behind):
        """The wrong text, with the place in it, ahead of it and behind it others."""
        self.check_place(ahead + wrong + behind, len(ahead) + place)

    def test_nothing_but_blanks(self):
        for text in ("", " ", "\n", "  ", "\n\n", " \n \n   "):
            self.check_place(text, len(text))

    def test_the_text_ends_too_early(self):
        for text in ("(", "((", "(a", "(a ", "(a\n", "(()", "(a (b", "(a (b)", "(a (b) ", "(a (b (c) d)", "((((a))) "):
            self.check_place(text, len(text))
            self.check_place(" \n" + text, len(text) + 2)

    def test_the_text_ends_too_early_in_many_lists(self):
        for depth in (1, 2, 10, 101, 200, 260):
            for text in ("(" * depth, "(a " * depth, "(a" * depth + " \n", "(" * depth + "a" + ")" * (depth - 1)):
                self.check_place(text, len(text))

    def test_a_parenthesis_closes_nothing(self):
        self.check_place(")", 0)
        self.check_place(" \n)", 2)
        self.check_place(")a", 0)
        self.check_place(")(", 0)
        self.check_place("a)", 1)
        self.check_place("a )", 2)
        self.check_place("())", 2)
        self.check_place("(a)\n)", 4)
        self.check_place("(a (b)))", 7)

    def test_a_second_value(self):
        self.check_place("a b", 2)
        self.check_place("a  \n b", 5)
        self.check_place("a ()", 2)
        self.check_place("(a) b", 4)
        self.check_place("(a) (b)", 4)
        self.check_place("(a)b", 3)
        self.check_place("(a)(b)", 3)
        self.check_place("()()", 2)
        self.check_place("a(", 1)
        self.check_place("a(b)", 1)
        self.check_place("a)", 1)
        self.check_place("abcdefghijkl(", 12)

    def test_behind_a_whole_value_the_first_sign_counts(self):
        for wrong in ("1", "1a", "b" * 13, "1" * 13, "-", "B", "\t", "(", ")", "(-", "b-"):
            for value in ("a", "()", "(a (b))"):
                for blank in BLANKS[1:]:
                    self.check_within(value + blank, wrong, 0, "")
                    self.check_within(value + blank, wrong, 0, " c)")
        for wrong in ("1", "1a", "b" * 13, "-", "B", "\t", "(", ")"):
            self.check_within("(a)", wrong, 0, "")

    def test_a_sign_of_no_value(self):
        for sign in "ABZ\t-_.,'\"\r\v\f\0%+*/\\[]{}~!?;:@`^|<>=#$&" + "\u00e9\u00df\u0430\u0661\u00b2\u00a0\u2003\U0001d51e":
            self.check_place(sign, 0)
            self.check_place("  " + sign, 2)
            self.check_place("a" + sign, 1)
            self.check_place("a1" + sign + "b", 2)
            self.check_place("(" + sign, 1)
            self.check_place("(" + sign + ")", 1)
            self.check_place("(a" + sign + "b)", 2)
            self.check_place("(a " + sign + ")", 3)
            self.check_place("(a)" + sign, 3)
            self.check_place("(a (b)" + sign, 6)
            self.check_place("(" * 150 + sign, 150)

    def test_a_run_begins_with_a_digit(self):
        for sign in "0123456789":
            for run in (sign, sign + "a", sign + "1", sign + "-"):
                self.check_place(run, 0)
                self.check_place(" " + run, 1)
                self.check_place("(" + run, 1)
                self.check_place("(" + run + ")", 1)
                self.check_place("(a " + run + ")", 3)
                self.check_place("((a)" + run + ")", 4)

    def test_a_run_is_too_long(self):
        for run in (TWELVE + "a", TWELVE + "1", "a" * 13, "a" * 14, "z" * 1000, TWELVE + "bA", TWELVE + "1-"):
            self.check_place(run, 12)
            self.check_place(" \n" + run, 14)
            self.check_place("(" + run, 13)
            self.check_place("(" + run + ")", 13)
            self.check_place("(a " + run + " b)", 15)
            self.check_place("(a()" + run + "(b))", 16)

    def test_a_run_of_twelve_is_right(self):
        self.assertEqual(read_value(TWELVE), TWELVE)
        self.assertEqual(read_value(f"({TWELVE}({TWELVE}))"), (TWELVE, (TWELVE,)))
        self.check_place(TWELVE + "-", 12)
        self.check_place(TWELVE + "A", 12)
        self.check_place(f"({TWELVE}", 13)
        self.check_place(f"({TWELVE}-", 13)

    def test_a_run_is_too_long_and_begins_with_a_digit(self):
        for run in ("1" * 13, "1" + "a" * 12, "0" + TWELVE, "9" * 500):
            self.check_place(run, 0)
            self.check_place("(" + run, 1)
            self.check_place("(a " + run + ")", 3)

    def test_faults_in_many_lists(self):
        for depth in (101, 150, 200, 260):
            ahead = "(a " * depth
            behind = ")" * depth
            for wrong, place in (("-", 0), ("b-", 1), ("1", 0), ("1" * 13, 0), ("b" * 13, 12), ("(B", 1)):
                self.check_within(ahead, wrong, place, "")
                self.check_within(ahead, wrong, place, behind)
            self.check_within(ahead + behind, ")", 0, "")
            self.check_within(ahead + behind, "b", 0, "")
            self.check_within(ahead + behind + " ", "b", 0, " c")
            self.check_within(ahead + behind[1:], "b", 1, "")

    def test_the_first_fault_counts(self):
        self.check_place("(A -", 1)
        self.check_place("(a - 1", 3)
        self.check_place("(a 1b -", 3)
        self.check_place("(" + "a" * 13 + " 1", 13)
        self.check_place("a) -", 1)

    def test_all_short_texts(self):
        """Ahead of the place a value can go on, with the sign at the place it cannot."""
        endings = ("", "a", ")", "))", ")))", "))))", ")))))", "a)", "a))")
        many_wrong = 0
        for length in range(6):
            for signs in itertools.product("a1() ", repeat=length):
                text = "".join(signs)
                try:
                    value = read_value(text)
                except BadText as error:
                    many_wrong += 1
                    place = error.place
                    self.assertTrue(any(self.is_right(text[:place] + ending) for ending in endings), text)
                    if place < length:
                        self.assertFalse(any(self.is_right(text[:place + 1] + ending) for ending in endings), text)
                else:
                    self.assertEqual(write_value(value).replace(" ", ""), text.replace(" ", ""))
        self.assertGreater(many_wrong, 3000)

    def is_right(self, text):
        try:
            read_value(text)
        except BadText:
            return False
        return True


class SameTest(unittest.TestCase):
    def check_same(self, first, second, answer):
        self.assertIs(same_values(first, second), answer)
        self.assertIs(same_values(second, first), answer)

    def test_words(self):
        self.check_same("a", "a", True)
        self.check_same(TWELVE, "".join(list(TWELVE)), True)
        self.check_same("a", "b", False)
        self.check_same("a", "aa", False)
        self.check_same("a1", "a2", False)
        self.check_same("abcdefghijkl", "abcdefghijkm", False)

    def test_a_word_and_a_list(self):
        self.check_same("a", (), False)
        self.check_same("a", ("a",), False)
        self.check_same("ab", ("a", "b"), False)
        self.check_same(("a",), (("a",),), False)
        self.check_same(("a", "b"), ("a", ("b",)), False)
        self.check_same(("a", ()), ("a", "b"), False)

    def test_lists(self):
        self.check_same((), (), True)
        self.check_same(((),), ((),), True)
        self.check_same(("a", ("b", ())), ("a", ("b", ())), True)
        self.check_same((), ((),), False)
        self.check_same(((), ()), ((),), False)

    def test_one_item_is_another(self):
        base = ["a", ("b",), (), "d", ("e", "f")]
        for at in range(len(base)):
            other = list(base)
            other[at] = "x"
            self.check_same(tuple(base), tuple(other), False)

    def test_another_length(self):
        base = ("a", "b", "c")
        self.check_same(base, base + ("c",), False)
        self.check_same(base, ("a",) + base, False)
        self.check_same(base, base[:2], False)
        self.check_same(base, base[1:], False)
        self.check_same((base, "d"), (base[:2], "d"), False)
        self.check_same(("d", base), ("d", base + ((),)), False)

    def test_another_order(self):
        self.check_same(("a", "b"), ("b", "a"), False)
        self.check_same(("a", ("b", "c")), (("b", "c"), "a"), False)
        self.check_same((("a", "b"), "c"), (("b", "a"), "c"), False)

    def test_the_same_words_in_other_lists(self):
        self.check_same((("a",), "b"), ("a", ("b",)), False)
        self.check_same((("a", "b"),), (("a",), "b"), False)

    def test_deep_lists(self):
        for depth in (200, 260):
            self.check_same(nested(depth), nested(depth), True)
            self.check_same(nested(depth), nested(depth, "b"), False)
            self.check_same(nested(depth), nested(depth, ()), False)
            self.check_same(nested(depth, ()), nested(depth + 1, ()), False)
            self.check_same(nested(depth), nested(depth + 1), False)
            self.check_same(nested(depth, ("a", "b")), nested(depth, ("a", "b", "b")), False)
            self.check_same(nested(depth, ("a", "b")), nested(depth, ("b", "a")), False)

    def test_many_parts(self):
        value = wide_and_deep(200, 900)
        text = write_value(value)
        self.check_same(value, read_value(text), True)
        for turned in ("w2".join(text.rsplit("w1", 1)), text.replace("w1", "w2", 1)):
            self.check_same(value, read_value(turned), False)
        self.check_same(("a",) * 199999, ("a",) * 199999, True)
        self.check_same(("a",) * 199999, ("a",) * 199998 + ("b",), False)
        self.check_same(("a",) * 199999, ("b",) + ("a",) * 199998, False)

    def test_a_value_and_itself(self):
        for value, _ in PAIRS:
            self.check_same(value, value, True)

    def test_all_pairs(self):
        for (first, first_text), (second, second_text) in itertools.product(PAIRS, repeat=2):
            self.check_same(first, second, first_text == second_text)


class ArgumentsTest(unittest.TestCase):
    def test_values_are_as_they_were(self):
        for value, text in PAIRS:
            other = read_value(text)
            write_value(value)
            same_values(value, other)
            same_values(value, (other, "a"))
            self.assertTrue(value == read_value(text))
            self.assertTrue(other == value)

    def test_answers_are_the_same_again(self):
        for value, text in PAIRS:
            self.assertEqual(write_value(value), write_value(value))
            self.assertTrue(read_value(text) == read_value(text))

    def test_texts_are_as_they_were(self):
        for text in ("(a (b))", "(a -", "a 1"):
            copied = "".join(list(text))
            try:
                read_value(text)
            except BadText:
                pass
            self.assertEqual(text, copied)


if __name__ == "__main__":
    unittest.main()
