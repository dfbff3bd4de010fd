"""Promises [2], [9] and [12] to [14], and the interface, ownglass/own.py."""

import unittest

from ownglass.machine import run_program
from ownglass.making import chosen, fill, renamed
from ownglass.own import know_own, mirror, ring
from ownglass.programs import check_program, inputs_of, names_of
from ownglass.texts import read_value, write_value
from reference import GlassTest, Maker, lists, some_inputs, takes, with_blank, words

PLAIN = "((main (x) x))"
SPIN = "((spin (x) (spin x)))"
WALK = "((walk (l) (if l (walk (tail l)) (quote end))))"
GROW = "((grow (x) (grow (join x x))))"

# know_own of a program of no input but its own text, and of one, written out
# by hand: R stands for the list of the functions in the second row.
OWN_OF_NONE = """((f2 () (f1 (quote R)))
(f1 (s) (f0 (join (join (quote f2) (join (quote ()) (join (join (quote f1)\
 (join (join (quote quote) (join s (quote ()))) (quote ()))) (quote ())))) s)))\
 (f0 (x) x))"""
OWN_OF_ONE = """((f3 (x1) (f2 (quote R) x1))
(f2 (s x1) (f0 (join (join (quote f3) (join (quote (x1)) (join (join (quote f2)\
 (join (join (quote quote) (join s (quote ()))) (quote (x1)))) (quote ())))) s) x1))\
 (f0 (a b) (f1 b a)) (f1 (x y) (join x y)))"""


def own_text(program):
    """The text of know_own, as the document tells it."""
    m, k = len(program), len(program[0][1]) - 1
    tree = (f"(join (join (quote f{m + 1}) (join (quote ({words(k)})) (join (join (quote f{m})"
            f" (join (join (quote quote) (join s (quote ()))) (quote ({words(k)})))) (quote ())))) s)")
    rest = functions_of(renamed(program, 0))
    r = f"((f{m} (s{with_blank(k)}) (f0 {tree}{with_blank(k)})) {rest})"
    return f"((f{m + 1} ({words(k)}) (f{m} (quote {r}){with_blank(k)})) {r[1:]}"


def functions_of(program):
    return write_value(program)[1:-1]


def side_by_side(programs):
    """The functions of the programs, renamed one behind the other, as a text, and the names of the main ones."""
    rows, mains, count = [], [], 0
    for program in programs:
        rows.append(functions_of(renamed(program, count)))
        mains.append(f"f{count}")
        count += len(program)
    return " ".join(rows), mains, count


def mirror_text(judge, no, yes):
    """The text of mirror, as the document tells it."""
    k = len(no[0][1])
    rows, (main_judge, main_no, main_yes), count = side_by_side((judge, no, yes))
    body = f"(if ({main_judge} s) ({main_yes}{with_blank(k)}) ({main_no}{with_blank(k)}))"
    return own_text(read_value(f"((f{count} (s{with_blank(k)}) {body}) {rows})"))


def ring_texts(programs):
    """The texts of ring, as the document tells them."""
    k = len(programs[0][0][1]) - 1
    rows, mains, count = side_by_side(programs)
    # The chooser's own functions, the one that has s, and the one that know_own puts in front.
    last = count + 3
    fronts = [f"(f{last} ({words(k)}) (f{last - 1} (quote w{at + 1}){with_blank(k)}))" for at in range(len(mains))]
    texts = "(quote ())"
    for front in reversed(fronts):
        texts = f"(join (join (quote {front}) s) {texts})"
    others = "".join(f" x{at}" for at in range(2, k + 2))
    body = f"({mains[-1]} {texts}{others})"
    for at in range(len(mains) - 2, -1, -1):
        body = f"(if (same x1 (quote w{at + 1})) ({mains[at]} {texts}{others}) {body})"
    chooser = own_text(read_value(f"((f{count} (s{with_blank(k + 1)}) {body}) {rows})"))
    return [f"({front} {chooser[1:]}" for front in fronts]


class OwnTest(GlassTest):
    def check_run(self, program, inputs, value, steps):
        run = run_program(program, inputs, 1000000)
        self.assertEqual((run.kind, run.steps), ("done", steps))
        self.assertEqual(write_value(run.value), write_value(value))

    def check_tired(self, program, inputs):
        for limit in (0, 1, 10, 100, 1000, 10000):
            run = run_program(program, inputs, limit)
            self.assertEqual((run.kind, run.value, run.steps), ("tired", None, limit))

    def check_good(self, program, inputs):
        self.assertIsNone(check_program(program))
        self.assertEqual(inputs_of(program), inputs)


class KnowOwnTest(OwnTest):
    def test_texts_by_hand(self):
        for text, own in ((PLAIN, OWN_OF_NONE), ("((main (a b) (other b a)) (other (x y) (join x y)))", OWN_OF_ONE)):
            first, rest = own.split("\n")
            self.check_text(know_own(read_value(text)), f"{first.replace('R', '(' + rest)} {rest}")

    def test_texts(self):
        for count in range(1, 10):
            program = takes(count)
            for more in range(4):
                self.check_text(know_own(program), own_text(program))
                self.check_good(know_own(program), count - 1)
                self.assertEqual(names_of(know_own(program)), [f"f{more + 2}", f"f{more + 1}"]
                                 + [f"f{at}" for at in range(more + 1)])
                name, parameters, _ = program[0]
                caller = (f"g{more}", parameters, (name, *reversed(parameters)))
                program = (caller,) + program

    def test_texts_of_random_programs(self):
        for seed in range(100):
            program = Maker(seed).program(1 + seed % 4, 12)
            self.check_text(know_own(program), own_text(program))
            self.check_good(know_own(program), seed % 4)

    def test_its_functions_are_its_own_text(self):
        made = know_own(lists(3))
        reader = made[1:]
        self.assertEqual(made, fill(reader, reader))
        self.assertEqual(made[0][2][1], ("quote", reader))

    def test_the_value_is_that_of_the_program_on_the_text(self):
        for count in range(1, 10):
            inputs = some_inputs(count - 1)
            made = know_own(lists(count))
            self.check_run(made, inputs, (made, *inputs), 2 * count + 1 + 2 * (count - 1) + 20)

    def test_random_programs(self):
        for seed in range(150):
            maker = Maker(seed)
            k = seed % 4
            program = maker.program(k + 1, 4)
            inputs = [maker.value() for _ in range(k)]
            made = know_own(program)
            right = run_program(program, [made] + inputs, 300)
            run = run_program(made, inputs, 300 + 2 * k + 20)
            self.assertEqual((run.kind, run.value, run.steps), (right.kind, right.value, right.steps + 2 * k + 20))

    def test_one_that_gives_its_own_text(self):
        for count in range(1, 10):
            made = know_own(takes(count, "x1"))
            self.check_run(made, some_inputs(count - 1), made, 1 + 2 * (count - 1) + 20)

    def test_one_that_compares_its_input_with_its_own_text(self):
        made = know_own(read_value("((main (own x) (same own x)))"))
        self.check_run(made, [made], "yes", 3 + 22)
        self.check_run(made, [made[1:]], (), 3 + 22)
        self.check_run(made, ["a"], (), 3 + 22)
        other = know_own(read_value("((main (own y) (same own y)))"))
        self.check_run(made, [other], (), 3 + 22)
        self.check_run(other, [other], "yes", 3 + 22)

    def test_one_that_does_not_look_at_its_text_does_the_same(self):
        made = know_own(read_value("((main (own x) (walk x)) (walk (l) (if l (walk (tail l)) (quote end))))"))
        self.check_run(made, [("a", "b")], "end", 15 + 22)
        self.check_tired(know_own(read_value("((main (own x) (spin x)) (spin (x) (spin x)))")), ["a"])
        self.check_tired(know_own(read_value("((main (own) (main own)))")), [])

    def test_quoted_values_stay(self):
        text = "((main (s) (other (quote (main (f0 s) (other x1))) s)) (other (p q) (join (quote main) (join p q))))"
        made = know_own(read_value(text))
        self.check_text(made, own_text(read_value(text)))
        value = ("main", read_value("(main (f0 s) (other x1))"), *made)
        self.check_run(made, [], value, 8 + 20)

    def test_names_and_parameters_that_are_made_ones(self):
        for text in ("((f1 (x1 s) (f0 s x1)) (f0 (s x1) (join x1 s)))",
                     "((f2 (s) (f0 (f1 s))) (f0 (f1) f1) (f1 (f2) (join f2 f2)))",
                     "((x1 (x1 s x2) (s x2 x1)) (s (s x1) (join s x1)))",
                     "((f0 (f0 f1) (join f1 f0)))", "((s (s) s))", "((f0 (x3 x2 x1) x2))"):
            program = read_value(text)
            made = know_own(program)
            self.check_text(made, own_text(program))
            k = inputs_of(program) - 1
            self.check_good(made, k)
            inputs = some_inputs(k)
            run = run_program(program, [made] + inputs, 1000)
            self.check_run(made, inputs, run.value, run.steps + 2 * k + 20)

    def test_made_out_of_what_was_made(self):
        first = know_own(read_value("((main (own x) (join x own)))"))
        second = know_own(first)
        # The first one knows the text that it had, also within the second one.
        self.check_text(second, own_text(first))
        self.check_run(second, [], (second, *first), 3 + 22 + 20)
        third = know_own(fill(lists(3), "a"))
        self.check_run(third, ["b"], ("a", third, "b"), 7 + 4 + 22)

    def test_deep_programs(self):
        body = "x"
        for _ in range(97):
            body = ("head", body)
        program = (("main", ("x",), ("join", body, ("quote", ()))),)
        made = know_own(program)
        self.check_text(made, own_text(program))
        value = "a"
        for _ in range(98):
            value = (value,)
        program = (("main", ("s", "x"), body),)
        self.check_run(know_own(program), [value], ("a",), 98 + 22)

    def test_wrong_numbers_of_inputs(self):
        for count in (0, 10, 11, 12):
            self.check_bad_inputs(lambda: know_own(takes(count)))

    def test_bad_programs(self):
        self.check_bad_program(0, lambda: know_own("a"))
        self.check_bad_program(0, lambda: know_own(()))
        self.check_bad_program(0, lambda: know_own(read_value("((main () y))")))
        self.check_bad_program(1, lambda: know_own(read_value("((main () (quote a)) (main () (quote a)))")))
        self.check_bad_program(1, lambda: know_own(takes(11) + ("a",)))


class MirrorTest(OwnTest):
    def test_text_by_hand(self):
        made = mirror(read_value("((main (p) p))"), read_value("((no (y z) y))"), read_value("((yes (y z) z))"))
        asker = "((f3 (s x1 x2) (if (f0 s) (f2 x1 x2) (f1 x1 x2))) (f0 (p) p) (f1 (y z) y) (f2 (y z) z))"
        self.check_text(made, write_value(know_own(read_value(asker))))

    def test_texts(self):
        walk = read_value(WALK)
        for count in range(9):
            no, yes = takes(count, "(quote no)"), takes(count, "(quote yes)")
            self.check_text(mirror(walk, no, yes), mirror_text(walk, no, yes))
            self.check_text(mirror(walk, yes, no), mirror_text(walk, yes, no))
            self.check_good(mirror(walk, yes, no), count)

    def test_texts_of_random_programs(self):
        for seed in range(100):
            maker = Maker(seed)
            judge, no, yes = maker.program(1, 4), maker.program(seed % 4, 4), maker.program(seed % 4, 4)
            self.check_text(mirror(judge, no, yes), mirror_text(judge, no, yes))
            self.check_good(mirror(judge, no, yes), seed % 4)

    def check_mirror(self, judge, says_yes):
        """The mirror does what it is to do, if the judge says this of it."""
        for count in range(9):
            inputs = some_inputs(count)
            no, yes = lists(count), takes(count, "(join (quote yes) (word (quote ())))")
            made = mirror(judge, no, yes)
            run = run_program(judge, [made], 100000)
            self.assertEqual((run.kind, run.value != ()), ("done", says_yes))
            if says_yes:
                self.check_run(made, inputs, ("yes",), run.steps + 4 + 3 * count + 24)
            else:
                self.check_run(made, inputs, tuple(inputs), run.steps + 2 * count + 1 + 3 * count + 24)

    def test_judges_that_say_yes(self):
        for body in ("(quote yes)", "(quote no)", "(quote (()))", "p", "(word (quote a))", "(same p p)"):
            self.check_mirror(read_value(f"((judge (p) {body}))"), True)

    def test_judges_that_say_no(self):
        for body in ("(quote ())", "(word p)", "(head (quote a))", "(same p (quote p))", "(tail (join p (quote ())))"):
            self.check_mirror(read_value(f"((judge (p) {body}))"), False)

    def test_judges_that_look_into_the_text(self):
        # The mirror's main function is f5: of judge, no and yes, of asking, and of knowing.
        self.check_mirror(read_value("((judge (p) (same (head (head p)) (quote f5))))"), True)
        self.check_mirror(read_value("((judge (p) (same (head (head p)) (quote f4))))"), False)
        self.check_mirror(read_value("((judge (p) (same (head (head (tail p))) (quote f4))))"), True)
        count = "((judge (p) (count (quote (a a a a a a)) p)) (count (n p) (if n (if p (count (tail n) (tail p)) p) p)))"
        self.check_mirror(read_value(count), True)
        self.check_mirror(read_value(count.replace("(a a", "(a a a a")), False)

    def test_a_judge_that_runs_another_program_on_it(self):
        # No program is the value of both: the judge says yes if its own text is not the mirror's.
        judge = know_own(read_value("((judge (own p) (if (same own p) (quote ()) (quote yes))))"))
        self.check_mirror(judge, True)

    def test_only_one_of_the_two_programs_runs(self):
        spin, plain = read_value(SPIN), read_value(PLAIN)
        yes, no = takes(1, "(quote yes)"), takes(1, "(quote ())")
        self.check_run(mirror(yes, spin, plain), ["a"], "a", 1 + 1 + 27)
        self.check_run(mirror(no, plain, spin), ["a"], "a", 1 + 1 + 27)
        self.check_tired(mirror(yes, plain, spin), ["a"])
        self.check_tired(mirror(no, spin, plain), ["a"])

    def test_a_judge_that_never_ends(self):
        for text in (SPIN, GROW):
            for count in range(9):
                self.check_tired(mirror(read_value(text), takes(count), takes(count)), some_inputs(count))

    def test_the_same_program_thrice(self):
        plain = read_value(PLAIN)
        made = mirror(plain, plain, plain)
        self.assertEqual(names_of(made), ["f5", "f4", "f0", "f1", "f2", "f3"])
        self.check_run(made, ["a"], "a", 1 + 1 + 27)
        walk = read_value(WALK)
        self.check_text(mirror(walk, walk, walk), mirror_text(walk, walk, walk))

    def test_does_what_chosen_does(self):
        # A judge that does not look: the mirror does what one of the two does on each input.
        for seed in range(60):
            maker = Maker(seed)
            no, yes = maker.program(2), maker.program(2)
            inputs = [maker.value(), maker.value()]
            for answer in ("(quote a)", "(quote ())"):
                made = mirror(takes(1, answer), no, yes)
                right = run_program(chosen(takes(2, answer), yes, no), inputs, 300)
                run = run_program(made, inputs, 300 + 23)
                self.assertEqual((run.kind, run.value, run.steps), (right.kind, right.value, right.steps + 23))

    def test_wrong_numbers_of_inputs(self):
        for count in range(13):
            if count != 1:
                self.check_bad_inputs(lambda: mirror(takes(count), takes(1), takes(1)))
            for other in range(13):
                if count != other or count > 8:
                    self.check_bad_inputs(lambda: mirror(takes(1), takes(count), takes(other)))

    def test_bad_programs(self):
        first, second = read_value("((main (x) y))"), read_value("((main (x) x) (other () x))")
        good, more = takes(1), takes(9)
        self.check_bad_program(0, lambda: mirror(first, second, good))
        self.check_bad_program(1, lambda: mirror(second, first, good))
        self.check_bad_program(1, lambda: mirror(good, second, first))
        self.check_bad_program(0, lambda: mirror(good, first, second))
        self.check_bad_program(1, lambda: mirror(more, more, second))
        self.check_bad_program(0, lambda: mirror(more, good, first))
        self.check_bad_program(0, lambda: mirror(more, (), good))


class RingTest(OwnTest):
    def check_ring(self, programs):
        """The texts are as told, and the programs are good."""
        made = ring(programs)
        self.assertIs(type(made), list)
        self.assertEqual(len(made), len(programs))
        for one, text in zip(made, ring_texts(programs)):
            self.check_text(one, text)
            self.check_good(one, len(programs[0][0][1]) - 1)
        return made

    def test_text_by_hand(self):
        made = ring([read_value("((main (l x) (join x l)))"), read_value("((main (l x) (other l)) (other (l) l))")])
        texts = ("(join (join (quote (f6 (x1) (f5 (quote w1) x1))) s)"
                 " (join (join (quote (f6 (x1) (f5 (quote w2) x1))) s) (quote ())))")
        chooser = know_own(read_value(
            f"((f3 (s x1 x2) (if (same x1 (quote w1)) (f0 {texts} x2) (f1 {texts} x2)))"
            " (f0 (l x) (join x l)) (f1 (l x) (f2 l)) (f2 (l) l))"))
        self.assertEqual(made, [fill(chooser, "w1"), fill(chooser, "w2")])
        self.assertEqual(names_of(made[0]), ["f6", "f5", "f4", "f0", "f1", "f2", "f3"])

    def test_text_by_hand_of_a_ring_of_one(self):
        made = ring((read_value("((main (l) l))"),))
        chooser = know_own(read_value(
            "((f1 (s x1) (f0 (join (join (quote (f4 () (f3 (quote w1)))) s) (quote ())))) (f0 (l) l))"))
        self.assertEqual(made, [fill(chooser, "w1")])
        self.check_run(made[0], [], (made[0],), 7 + 22 + 2)

    def test_texts_and_runs_of_all_sizes(self):
        for count in range(1, 9):
            for many in (1, 2, 3, 12):
                marks = [f"p{at}" for at in range(many)]
                programs = [read_value(f"((main ({words(count)}) (join (quote {mark}) (other {words(count)})))"
                                       f" (other ({words(count)}) {write_value(lists(count)[0][2])}))") for mark in marks]
                made = self.check_ring(programs)
                inputs = some_inputs(count - 1)
                for one, mark in list(zip(made, marks))[:: 1 if many < 12 else 11]:
                    run = run_program(one, inputs, 1000000)
                    self.assertEqual(write_value(run.value), write_value((mark, tuple(made), *inputs)))

    def test_texts_and_runs_of_random_programs(self):
        for seed in range(100):
            maker = Maker(seed)
            k = seed % 3
            programs = [maker.program(k + 1, 4) for _ in range(1 + seed % 5)]
            made = self.check_ring(programs)
            inputs = [maker.value() for _ in range(k)]
            for one, program in zip(made, programs):
                right = run_program(program, [tuple(made)] + inputs, 300)
                if right.kind == "done":
                    run = run_program(one, inputs, 10000)
                    self.assertEqual((run.kind, run.value), ("done", right.value))
                elif right.kind == "tired":
                    self.assertEqual(run_program(one, inputs, 300).kind, "tired")

    def test_each_one_has_its_own_inputs_and_the_others_texts(self):
        programs = [read_value(text) for text in (
            "((main (l x) (head (tail l))))", "((main (l x) (same x (head l))))", "((main (l x) (head l)))")]
        made = self.check_ring(programs)
        self.assertEqual(run_program(made[0], ["a"], 1000).value, made[1])
        self.assertEqual(run_program(made[1], [made[0]], 1000).value, "yes")
        self.assertEqual(run_program(made[1], [made[1]], 1000).value, ())
        self.assertEqual(run_program(made[2], ["a"], 1000).value, made[0])

    def test_one_that_never_ends_leaves_the_others_alone(self):
        made = ring([read_value("((main (l) (main l)))"), read_value("((main (l) (head (tail l))))")])
        self.check_tired(made[0], [])
        self.assertEqual(run_program(made[1], [], 1000).value, made[1])

    def test_lists_and_tuples(self):
        programs = [lists(2), takes(2), lists(2)]
        before = list(programs)
        made = ring(programs)
        self.assertEqual(programs, before)
        self.assertEqual(made, ring(tuple(programs)))
        self.assertIs(type(ring(tuple(programs))), list)

    def test_the_returned_list_is_the_callers(self):
        programs = [lists(2), takes(2)]
        made = ring(programs)
        kept = list(made)
        made.reverse()
        made.append("a")
        del made[0]
        self.assertEqual(ring(programs), kept)
        self.assertIsNot(ring(programs), ring(programs))

    def test_wrong_numbers(self):
        self.check_bad_inputs(lambda: ring([]))
        self.check_bad_inputs(lambda: ring(()))
        for many in (13, 14, 20):
            self.check_bad_inputs(lambda: ring([takes(1)] * many))
        for count in (0, 9, 10, 12):
            for many in (1, 2, 12):
                self.check_bad_inputs(lambda: ring([takes(count)] * many))
        self.check_bad_inputs(lambda: ring([takes(1), takes(2)]))
        self.check_bad_inputs(lambda: ring([takes(2), takes(2), takes(1)]))
        self.check_bad_inputs(lambda: ring([takes(1), takes(0)]))
        self.check_bad_inputs(lambda: ring([takes(8), takes(9)]))

    def test_bad_programs(self):
        first, second = read_value("((main (x) y))"), read_value("((main (x) x) (other () x))")
        self.check_bad_program(0, lambda: ring([first, second]))
        self.check_bad_program(1, lambda: ring([second, first]))
        self.check_bad_program(1, lambda: ring([takes(1), takes(2), takes(0), second, first]))
        self.check_bad_program(0, lambda: ring([takes(1)] * 14 + [first]))
        self.check_bad_program(0, lambda: ring((takes(1), ())))


class ArgumentsTest(OwnTest):
    def test_arguments_are_as_they_were_and_answers_the_same_again(self):
        texts = (WALK, PLAIN, write_value(lists(2)))
        walk, plain, two = [read_value(text) for text in texts]
        for call in (lambda: know_own(two), lambda: mirror(walk, plain, walk), lambda: ring([walk, plain])):
            self.assertEqual(call(), call())
            self.assertEqual(tuple(write_value(program) for program in (walk, plain, two)), texts)


if __name__ == "__main__":
    unittest.main()
