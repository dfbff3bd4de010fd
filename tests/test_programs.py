"""Promises [2], [4] and [5], and the interface, ownglass/programs.py."""

import unittest

from ownglass.errors import BadProgram
from ownglass.programs import check_program, inputs_of, names_of
from ownglass.texts import read_value, write_value

SPECIAL = ("quote", "if", "same", "word", "head", "tail", "join")
TWELVE = "a b c d e f g h i j k l"

GOOD = (
    "((main () (quote a)))",
    "((main (x) x))",
    "((main (x y) y))",
    "((main (x) (quote x)))",
    "((main (x) (if x x x)))",
    "((main (x) (same x x)))",
    "((main (x) (word x)))",
    "((main (x) (head x)))",
    "((main (x) (tail x)))",
    "((main (x) (join x x)))",
    "((main (x) (main x)))",
    "((main () (main)))",
    "((main (x) (other x x)) (other (x y) (join x y)))",
    "((main (x) (other)) (other () (quote ())))",
    "((main (x) x) (other (y) (main y)))",
    "((main (x) (third (second x))) (second (x) (third (main x))) (third (x) (second x)))",
    "((main (x) (if (same (head x) (word (tail x))) (join x (quote ())) (main (main x)))))",
    f"((main ({TWELVE}) l))",
    f"((main ({TWELVE}) (main {TWELVE})))",
    f"((main () (other {'(quote a) ' * 12})) (other ({TWELVE}) a))",
    "((f0 (x) x))",
    "((f0 (x) (f1 x)) (f1 (x) (f0 x)))",
    "((f1 (x) (f0 x)) (f0 (x) x))",
    "((main (x) x) (f1 (x) x))",
    "((main (x) x) (f0 (x) x) (f2 (x) x))",
    "((f01x (x) (f01x x)))",
    "((f (x) (f x)))",
    "((f99a (x) x) (ff9 (x) x) (g99 (x) x) (a01 (x) x) (f1f2 (x) x) (nf9 (x) x))",
    "((main (main) (main main)))",
    "((main (f99 f00 f01) f99))",
    "((main (x other) (other x)) (other (x) x))",
    "((quotes (ifs) ifs) (x (y) y) (iff (x) x) (list (x) x))",
    "((main () (quote quote)))",
    "((main () (quote if)))",
    "((main () (quote ())))",
    "((main () (quote (()))))",
    "((main () (quote ((() a) (if) (nobody x)))))",
    "((main () (quote (quote))))",
    "((main () (quote (quote a b c))))",
    "((main () (quote (main a b))))",
    "((main () (quote ((main () (quote a))))))",
)


def functions(count):
    """A text of so many functions, f0 and so on, each of which calls the last one."""
    rows = [f"(f{k} (x) (f{count - 1} x))" for k in range(count)]
    return "(" + " ".join(rows) + ")"


def within(depth, part):
    """An expression with the part below so many others."""
    kinds = ("(if x {} x)", "(same x {})", "(word {})", "(head {})", "(join {} x)", "(main {})", "(if x x {})")
    text = part
    for k in range(depth):
        text = kinds[k % len(kinds)].format(text)
    return text


class GoodTest(unittest.TestCase):
    def check_good(self, text):
        self.assertIsNone(check_program(read_value(text)), text)

    def test_good_programs(self):
        for text in GOOD:
            self.check_good(text)

    def test_made_names_below_the_number_of_items(self):
        for count in (1, 2, 9, 10, 11, 12, 101):
            self.check_good(functions(count))

    def test_quoted_values_of_any_kind(self):
        deep = "(" * 197 + ")" * 197
        for value in ("a", "f99", "f01", "abcdefghijk1", "()", "(a (b c) ())", "(quote (quote))", deep):
            self.check_good(f"((main (x) (quote {value})))")
            self.check_good(f"((main (x) (join x (other (quote {value})))) (other (y) y))")

    def test_deep_bodies(self):
        for depth in (1, 150, 197, 260):
            self.check_good(f"((main (x) {within(depth, 'x')}))")

    def test_many_parts(self):
        body = "x"
        for _ in range(15):
            body = f"(if {body} {body} x)"
        self.check_good(f"((main (x) {body}))")
        self.check_good("((main (x) x) " + " ".join(f"(a{k} (x) (a{k + 1} x))" for k in range(25000))
                        + " (a25000 (x) x))")
        self.check_good("((main () (quote (" + "a " * 199990 + "))))")


class BadTest(unittest.TestCase):
    def check_value(self, value, number):
        for function in (check_program, inputs_of, names_of):
            with self.assertRaises(BadProgram) as caught:
                function(value)
            self.assertEqual(caught.exception.function, number, write_value(value)[:200])

    def check_bad(self, text, number):
        self.check_value(read_value(text), number)

    def check_function(self, text):
        """The function is wrong in the first, in the second and in the fourth place."""
        self.check_bad(f"({text})", 0)
        self.check_bad(f"({text} (other1 (x) x))", 0)
        self.check_bad(f"((main1 (x) x) {text})", 1)
        self.check_bad(f"((main1 (x) x) (main2 () (quote a)) (main3 (x) x) {text} (main4 (x) x))", 3)

    def check_body(self, body):
        """The body is wrong for the parameters x and y, wherever it stands."""
        self.check_function(f"(main (x y) {body})")
        for around in ("(word {})", "(if {} x y)", "(if x {} y)", "(if x y {})", "(same x {})", "(main {} x)",
                       "(main x {})", "(join (head {}) x)"):
            self.check_function(f"(main (x y) {around.format(body)})")
        self.check_function(f"(main (x) {within(180, body.replace('y', 'x'))})")

    def test_no_list_of_functions(self):
        self.check_value("main", 0)
        self.check_value((), 0)
        self.check_bad("(main)", 0)
        self.check_bad("(main x)", 0)
        self.check_bad("(main (x) x)", 0)
        self.check_bad("(main other third)", 0)
        self.check_bad("(())", 0)

    def test_a_function_is_no_list_of_three(self):
        for text in ("main", "()", "(main)", "(main ())", "(main (x))", "(main x)", "(main (x) x x)",
                     "(main (x) x ())", "((main (x) x))"):
            self.check_function(text)

    def test_a_name_is_a_list(self):
        for text in ("(() (x) x)", "((main) (x) x)", "((main (x) x) (x) x)"):
            self.check_function(text)

    def test_a_special_word_is_a_name(self):
        for word in SPECIAL:
            self.check_function(f"({word} (x) x)")
            self.check_function(f"({word} () (quote a))")

    def test_a_name_is_used_twice(self):
        self.check_bad("((main (x) x) (main (x) x))", 1)
        self.check_bad("((main (x) x) (main (y) y))", 1)
        self.check_bad("((main (x) x) (other (x) x) (main (x x) x))", 2)
        self.check_bad("((main (x) x) (other (x) x) (third (x) x) (other (x) x) (main (x) x))", 3)
        self.check_bad("((f0 (x) x) (f1 (x) x) (f0 (x) x))", 2)

    def test_a_made_name_with_a_leading_zero(self):
        for name in ("f00", "f01", "f000", "f0123", "f00000000000"):
            self.check_function(f"({name} (x) x)")

    def test_a_made_name_is_not_below_the_number_of_items(self):
        self.check_bad("((f1 (x) x))", 0)
        self.check_bad("((f2 (x) x) (main (x) x))", 0)
        self.check_bad("((main (x) x) (f2 (x) x))", 1)
        self.check_bad("((main (x) x) (f1 (x) x) (f3 (x) x))", 2)
        self.check_bad("((f0 (x) x) (f10 (x) x) " + " ".join(f"(f{k} (x) x)" for k in range(1, 9)) + ")", 1)
        for name in ("f5", "f10", "f99", "f99999999999"):
            self.check_function(f"({name} (x) x)")
        for count in (1, 9, 10, 100):
            rows = " ".join(f"(f{k} (x) x)" for k in range(1, count + 1))
            self.check_bad(f"({rows})", count - 1)

    def test_items_that_are_no_functions_count_for_made_names(self):
        self.check_bad("((f2 (x) x) () ())", 1)
        self.check_bad("((f3 (x) x) () ())", 0)

    def test_the_parameters_are_no_list(self):
        self.check_function("(main x x)")
        self.check_function("(main quote (quote a))")

    def test_too_many_parameters(self):
        self.check_function(f"(main ({TWELVE} m) a)")
        self.check_function(f"(main ({TWELVE} m n) a)")
        self.check_function(f"(main ({TWELVE} m) (quote a))")
        many = " ".join(f"x{k}" for k in range(50000))
        self.check_function(f"(main ({many}) x1)")

    def test_two_parameters_alike(self):
        self.check_function("(main (x x) x)")
        self.check_function("(main (x y x) y)")
        self.check_function("(main (a b c d e f g h i j k a) b)")
        self.check_function("(main (a b c d e f g h i j k k) b)")

    def test_a_special_word_is_a_parameter(self):
        for word in SPECIAL:
            self.check_function(f"(main ({word}) (quote a))")
            self.check_function(f"(main (x {word}) x)")
            self.check_function(f"(main ({word} x) {word})")

    def test_a_list_is_a_parameter(self):
        for text in ("(main (()) (quote a))", "(main (x ()) x)", "(main (x (y)) x)", "(main ((x)) x)",
                     "(main (() ()) (quote a))"):
            self.check_function(text)
        deep = "(" * 190 + ")" * 190
        self.check_function(f"(main (x {deep}) x)")

    def test_a_word_is_no_parameter(self):
        for word in ("z", "main", "quote", "if", "xx", "x1"):
            self.check_body(word)
        self.check_function("(main () x)")
        self.check_bad("((main (x) x) (other (y) x))", 1)
        self.check_bad("((main (x) y) (other (y) y))", 0)

    def test_an_empty_list_and_a_list_in_front(self):
        for body in ("()", "(())", "((quote) a)", "((quote a))", "((main x x))", "((x) x)", "((word) x)"):
            self.check_body(body)

    def test_a_wrong_number_of_parts_of_special_words(self):
        counts = {"if": 3, "same": 2, "word": 1, "head": 1, "tail": 1, "join": 2, "quote": 1}
        self.assertEqual(sorted(counts), sorted(SPECIAL))
        for word, right in counts.items():
            for count in range(6):
                text = "(" + " ".join([word] + ["x"] * count) + ")"
                if count != right:
                    self.check_body(text)
                else:
                    self.assertIsNone(check_program(read_value(f"((main (x y) {text}))")))

    def test_a_wrong_number_of_parts_of_calls(self):
        for count in range(15):
            parts = "x " * count
            for many in range(13):
                names = " ".join(TWELVE.split()[:many])
                text = f"((main (x) (other {parts})) (other ({names}) (quote a)))"
                if count != many:
                    self.check_bad(text, 0)
                else:
                    self.assertIsNone(check_program(read_value(text)))
        self.check_bad("((main (x) x) (other (x y) (main x y)))", 1)
        self.check_bad("((main (x) x) (other (x y) (other x)))", 1)

    def test_a_call_of_what_is_not_there(self):
        for body in ("(nobody)", "(nobody x)", "(x)", "(x y)", "(y x x)", "(mains x y)", "(list x y)", "(a)"):
            self.check_body(body)
        self.check_bad("((main (x) (main1 x)) (main2 (x) x))", 0)

    def test_a_call_of_what_is_no_list_of_word_list_and_anything(self):
        for item in ("other", "(other)", "(other (x))", "(other (x) x x)", "(other x x)", "((other) (x) x)"):
            self.check_bad(f"((main (x) (other x)) {item})", 0)
            self.check_bad(f"((main (x) x) (third (x) (other x)) {item})", 1)

    def test_a_call_of_what_is_not_good_itself(self):
        for item in ("(other (x) y)", "(other (()) x)", "(other ((x)) ())", "(other (if) (if))", "(other (x) ())"):
            self.check_bad(f"((main (x) (other x)) {item})", 1)
            self.check_bad(f"((main (x) x) (third (x) (other x)) {item})", 2)
            self.check_bad(f"((main (x) (other x x)) {item})", 0)
        self.check_bad("((main (x) (other x x)) (other (y y) y))", 1)
        self.check_bad("((main (x) (f01 x)) (f01 (y) y))", 1)
        self.check_bad("((main (x) (f9 x)) (f9 (y) y))", 1)
        self.check_bad(f"((main (x) (other {'x ' * 13})) (other ({TWELVE} m) a))", 1)
        self.check_bad("((main (x) (word x)) (word (x y) x))", 1)
        self.check_bad("((main (x) (word x x)) (word (x y) x))", 0)

    def test_a_call_of_what_stands_twice(self):
        self.check_bad("((main (x) (other x)) (other (x) x) (other (x y) x))", 2)
        self.check_bad("((main (x) (other x x)) (other (x) x) (other (x y) x))", 0)
        self.check_bad("((main (x) (other x)) (other (x y) x) (other (x) x))", 0)
        self.check_bad("((main (x) (other x x)) (other (x y) x) (other (x) x))", 2)
        self.check_bad("((main (x) x) (third (x) (main x x)) (main (x y) x))", 1)
        self.check_bad("((main (x) x) (third (x) (main x)) (main (x y) (nobody)))", 2)

    def test_what_is_called_is_the_first_of_its_form(self):
        self.check_bad("((main (x) (other x)) (other (x y)) (other (x) x))", 1)
        self.check_bad("((main (x) (other x)) (other x x) (other (x) x))", 1)
        self.check_bad("((main (x) (other x)) other (other (x) x))", 1)
        self.check_bad("((main (x) (other x)) (other (x) ()) (other (x y) x))", 1)
        self.check_bad("((main (x) (other x x)) (other (x) ()) (other (x y) x))", 0)

    def test_wrong_parts_deep_within_others(self):
        for part in ("z", "()", "(())", "((x) x)", "(head)", "(main x x)", "(nobody x)", "(if x x)", "(quote)"):
            for depth in (180, 260):
                self.check_function(f"(main (x) {within(depth, part)})")
        self.assertIsNone(check_program(read_value(f"((main (x) {within(180, 'x')}))")))

    def test_what_is_quoted_is_no_expression_and_what_is_beside_it_is(self):
        self.check_body("(join (quote (z)) z)")
        self.check_body("(join z (quote (z)))")
        self.check_body("(if (quote ()) (quote z) z)")

    def test_each_part_is_judged(self):
        for at in range(12):
            parts = ["a"] * 12
            parts[at] = "z"
            self.check_bad(f"((main ({TWELVE}) (main {' '.join(parts)})))", 0)

    def test_the_first_wrong_function_counts(self):
        wrong = ("(a (x) y)", "(b (x x) x)", "(if (x) x)", "()", "c", "(d x x)", "(e (x) (head))", "(f99 (x) x)")
        for first in wrong:
            for second in wrong:
                self.check_bad(f"({first} {second})", 0)
                self.check_bad(f"((main (x) x) {first} {second})", 1)
                self.check_bad(f"((main (x) x) {first} (other (x) x) {second})", 1)
                self.check_bad(f"((main (x) x) (other (x) x) {first} (main (x) x) {second})", 2)
                self.check_bad(f"((main (x) x) (main (x) x) {first} {second})", 1)

    def test_many_parts(self):
        rows = " ".join(f"(a{k} (x) (a{k + 1} x))" for k in range(25000))
        self.check_bad(f"((main (x) x) {rows})", 25000)
        self.check_bad(f"((main (x) x) {rows} (a7 (x) x) (a25000 (x) x))", 25001)


class InputsAndNamesTest(unittest.TestCase):
    def test_inputs(self):
        for count in range(13):
            names = " ".join(TWELVE.split()[:count])
            text = f"((main ({names}) (quote a)) (other (x y z) x) (third () (quote b)))"
            self.assertEqual(inputs_of(read_value(text)), count)
            self.assertIs(type(inputs_of(read_value(text))), int)
            self.assertEqual(inputs_of(read_value(f"((main ({names}) (quote a)))")), count)

    def test_names(self):
        for count in range(13):
            parameters = " ".join(TWELVE.split()[:count])
            text = f"((main ({parameters}) (quote a)) (other (x y z) x) (f0 () (quote b)))"
            self.assertEqual(names_of(read_value(text)), ["main", "other", "f0"])
            self.assertIs(type(names_of(read_value(text))), list)
        self.assertEqual(names_of(read_value("((main (x) x))")), ["main"])
        self.assertEqual(names_of(read_value(functions(30))), [f"f{k}" for k in range(30)])
        self.assertEqual(names_of(read_value("((z (x) x) (a (x) x) (m (x) x))")), ["z", "a", "m"])

    def test_a_returned_list_belongs_to_the_caller(self):
        program = read_value("((main (x) (other x)) (other (x) x))")
        names = names_of(program)
        names.append("third")
        names[0] = "changed"
        self.assertEqual(names_of(program), ["main", "other"])
        names_of(program).clear()
        self.assertEqual(names_of(program), ["main", "other"])
        self.assertIsNone(check_program(program))
        self.assertEqual(inputs_of(program), 1)

    def test_two_answers_are_two_lists(self):
        program = read_value("((main (x) x))")
        self.assertIsNot(names_of(program), names_of(program))


class ArgumentsTest(unittest.TestCase):
    def test_programs_are_as_they_were(self):
        wrong = ("a", "()", "((main (x) y))", "((main (x) (nobody x)) (main (x) x))", "((main (x) x) (f9 (x) x))")
        for text in GOOD + wrong:
            program = read_value(text)
            for function in (check_program, inputs_of, names_of):
                try:
                    function(program)
                except BadProgram:
                    pass
                self.assertTrue(program == read_value(text))

    def test_answers_are_the_same_again(self):
        for text in GOOD:
            program = read_value(text)
            self.assertEqual(names_of(program), names_of(program))
            self.assertEqual(inputs_of(program), inputs_of(program))


if __name__ == "__main__":
    unittest.main()
