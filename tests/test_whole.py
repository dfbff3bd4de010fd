"""Promises [1] and [2] over the whole program, and the names of the interface."""

import ast
import importlib
import inspect
import os
import subprocess
import sys
import unittest

import ownglass
from ownglass.across import ring_across
from ownglass.judges import judge_answer
from ownglass.machine import NO_LIMIT, run_program
from ownglass.making import chosen, composed, fill
from ownglass.own import know_own, mirror
from ownglass.refuters import refute_ends
from ownglass.stacks import run_machine
from ownglass.texts import read_value, write_value
from ownglass.translate import from_machine, to_machine
from ownglass.translator import machine_universal, translator
from ownglass.universal import fixed, universal
from reference import GlassTest, Maker, lists

# The names that the interface lists, with their parameters.
INTERFACE = {
    "errors": {"GlassError": None, "BadText": None, "BadProgram": None, "BadInputs": None},
    "texts": {"read_value": ["text"], "write_value": ["value"], "same_values": ["first", "second"]},
    "programs": {"check_program": ["value"], "inputs_of": ["program"], "names_of": ["program"]},
    "machine": {"Run": None, "run_program": ["program", "inputs", "limit"]},
    "never": {"watch_program": ["program", "inputs", "limit"], "check_never": ["program", "inputs", "paper"]},
    "sure": {"sure_paper": ["program"], "check_sure": ["program", "paper"]},
    "making": {"renamed": ["program", "start"], "fill": ["program", "value"], "chosen": ["test", "yes", "no"],
               "composed": ["outer", "inner"]},
    "own": {"know_own": ["program"], "mirror": ["judge", "no", "yes"], "ring": ["programs"]},
    "universal": {"universal": [], "fixed": ["changer", "inputs"]},
    "refuters": {"refute_ends": ["claim", "limit"], "refute_self": ["claim", "limit"], "refute_alike": ["claim", "limit"],
                 "refute_best": ["claim", "limit"], "refute_list": ["lister"], "refute_within": ["claim", "bound"],
                 "refute_sure": ["claim", "limit"], "refute_grants": ["claim", "most", "limit"]},
    "judges": {"judge_answer": ["kind", "claim", "limit", "answer"], "judge_grants": ["claim", "most", "limit", "answer"]},
    "stacks": {"check_machine": ["value"], "run_machine": ["program", "inputs", "limit"]},
    "translate": {"to_machine": ["program"], "from_machine": ["program", "inputs"]},
    "translator": {"translator": [], "machine_universal": []},
    "across": {"know_own_machine": ["program"], "ring_across": ["programs", "kinds"], "refute_machine": ["claim", "limit"]},
}

FOLDER = os.path.dirname(ownglass.__file__)


class InterfaceTest(unittest.TestCase):
    def test_each_name_is_defined_in_its_file(self):
        for file, names in INTERFACE.items():
            module = importlib.import_module(f"ownglass.{file}")
            for name, parameters in names.items():
                thing = getattr(module, name)
                self.assertEqual(thing.__module__, f"ownglass.{file}")
                if parameters is not None:
                    self.assertEqual(list(inspect.signature(thing).parameters), parameters)

    def test_the_package_imports_only_itself(self):
        for file in sorted(os.listdir(FOLDER)):
            if file == "__pycache__":
                continue
            self.assertTrue(file.endswith(".py"), file)
            with open(os.path.join(FOLDER, file), encoding="ascii") as source:
                tree = ast.parse(source.read())
            for part in ast.walk(tree):
                self.assertNotIsInstance(part, ast.Import)
                if isinstance(part, ast.ImportFrom):
                    self.assertTrue(part.module.startswith("ownglass."), part.module)

    def test_answers_do_not_hang_on_the_order_of_sets(self):
        code = ("import hashlib\n"
                "from ownglass.across import ring_across\nfrom ownglass.refuters import refute_grants\n"
                "from ownglass.sure import sure_paper\nfrom ownglass.never import watch_program\n"
                "from ownglass.translate import from_machine, to_machine\nfrom ownglass.translator import translator\n"
                "parts = [ring_across([(('main', ('x', 'y'), ('join', 'x', 'y')),)] * 3, ['plain', 'machine', 'plain']),\n"
                "         sure_paper(translator()), from_machine(to_machine(translator()), 2),\n"
                "         refute_grants((('main', ('p', 'n'), 'n'),), 5, 10)]\n"
                "print(hashlib.sha256(repr(parts).encode()).hexdigest())\n")
        found = set()
        for seed in ("0", "1", "2"):
            changed = dict(os.environ, PYTHONHASHSEED=seed, PYTHONPATH=os.path.dirname(FOLDER), PYTHONDONTWRITEBYTECODE="1")
            found.add(subprocess.run([sys.executable, "-c", code], env=changed, check=True, capture_output=True).stdout)
        self.assertEqual(len(found), 1)


class WholeTest(GlassTest):
    def check_everywhere(self, program, inputs):
        """The program has one value, however it is written, translated and run; return the value."""
        right = run_program(program, inputs, NO_LIMIT)
        again = read_value(write_value(program))
        self.assertEqual(again, program)
        machine = to_machine(again)
        machine_again = read_value(write_value(machine))
        back = from_machine(machine_again, len(inputs))
        runs = [run_program(again, inputs, NO_LIMIT), run_program(universal(), [again, tuple(inputs)], NO_LIMIT),
                run_machine(machine_again, inputs, NO_LIMIT), run_program(back, inputs, NO_LIMIT),
                run_program(machine_universal(), [machine_again, tuple(inputs)], NO_LIMIT),
                run_machine(to_machine(universal()), [again, tuple(inputs)], NO_LIMIT)]
        for run in runs:
            self.assertEqual((run.kind, run.value), (right.kind, right.value))
        self.assertEqual(run_program(translator(), [again], NO_LIMIT).value, machine)
        return right.value

    def test_a_judge_and_two_programs(self):
        no, yes = read_value("((no (x y) (join x y)))"), read_value("((yes (x y) (join y (join x (quote ())))))")
        for body, says_yes in (("(quote a)", True), ("(quote ())", False), ("(same (head (head p)) (quote f5))", True),
                               ("(same (head (head p)) (quote f6))", False), ("(other (tail p))", True)):
            judge = read_value(f"((judge (p) {body}) (other (l) (if l (other (tail l)) (quote yes))))")
            for inputs in (["a", ("b",)], [(), "c"]):
                made = mirror(judge, no, yes)
                told = run_program(judge, [made], 10000).value != ()
                right = run_program(yes if told else no, inputs, 1000).value
                self.assertEqual(self.check_everywhere(made, inputs), right)
                if "head" not in body:
                    self.assertEqual(told, says_yes)

    def test_random_judges_and_programs(self):
        for seed in range(12):
            maker = Maker(seed)
            judge, no, yes = maker.program(1), maker.program(1), maker.program(1)
            made = mirror(judge, no, yes)
            inputs = [maker.value()]
            told = run_program(judge, [made], 300)
            if told.kind == "done":
                right = run_program(no if told.value == () else yes, inputs, 300)
                if right.kind == "done":
                    self.assertEqual(self.check_everywhere(made, inputs), right.value)

    def test_what_is_made_of_what_is_made(self):
        own = know_own(lists(2))
        both = chosen(read_value("((main (x) (word x)))"), own, composed(read_value("((main (y) (join y y)))"), own))
        self.assertEqual(self.check_everywhere(both, ["a"]), (own, "a"))
        self.assertEqual(self.check_everywhere(both, [("a",)]), ((own, ("a",)), own, ("a",)))
        self.assertEqual(self.check_everywhere(fill(lists(3), "z"), ["a", ()]), ("z", "a", ()))

    def test_a_program_prints_one_of_the_other_language_that_prints_the_first(self):
        other, first = read_value("((main (l) (head (tail l))))"), read_value("((main (l) (head l)))")
        plain, machine = ring_across([other, first], ["plain", "machine"])
        self.assertNotEqual(plain, machine)
        self.assertEqual(run_program(plain, [], NO_LIMIT).value, machine)
        self.assertEqual(run_machine(machine, [], NO_LIMIT).value, plain)
        # By the texts alone, again and again.
        text = write_value(plain)
        for _ in range(2):
            printed = write_value(run_program(read_value(text), [], NO_LIMIT).value)
            self.assertEqual(printed, write_value(machine))
            self.assertEqual(write_value(run_machine(read_value(printed), [], NO_LIMIT).value), text)

    def test_a_claim_that_runs_programs_is_handed_one_that_it_waits_for(self):
        runs = fixed(read_value("((changer (p) (quote ((main (x y) (join x y))))))"), 2)
        self.assertEqual(run_program(runs, ["a", ("b",)], NO_LIMIT).value, ("a", "b"))
        answer = refute_ends(runs, 100000)
        # It says yes, as its value is a list.
        self.assertEqual((answer[0], answer[2]), ("wrong", "ends"))
        self.assertIs(judge_answer("ends", runs, 100000, answer), True)


if __name__ == "__main__":
    unittest.main()
