"""The interface as it is listed, and the outer form of the package."""

import ast
import inspect
import unittest
from pathlib import Path

from fairqueue import (
    admission,
    buckets,
    clock,
    close,
    errors,
    fair,
    flows,
    ideal,
    live,
    rows,
    rules,
    schedules,
    texts,
    waits,
)
from tests.support import ERRORS_WITH_THING

PACKAGE = Path(__file__).parent.parent / "fairqueue"
LISTED = {
    (flows, "is_weights"): ["thing"],
    (flows, "is_arrivals"): ["weights", "thing"],
    (flows, "share"): ["weights", "flow"],
    (flows, "longest"): ["weights", "arrivals"],
    (flows, "own_longest"): ["weights", "arrivals", "flow"],
    (texts, "written"): ["weights", "arrivals"],
    (texts, "read"): ["text"],
    (ideal, "ideal_ends"): ["weights", "arrivals"],
    (ideal, "ideal_given"): ["weights", "arrivals", "moment"],
    (ideal, "busy"): ["weights", "arrivals"],
    (clock, "clock"): ["weights", "arrivals", "moment"],
    (clock, "tags"): ["weights", "arrivals"],
    (clock, "moment_of"): ["weights", "arrivals", "value"],
    (fair, "schedule"): ["weights", "arrivals"],
    (fair, "eligible"): ["weights", "arrivals", "moment"],
    (schedules, "is_schedule"): ["weights", "arrivals", "thing"],
    (schedules, "is_busy"): ["weights", "arrivals", "schedule"],
    (schedules, "ends"): ["weights", "arrivals", "schedule"],
    (schedules, "sent"): ["weights", "arrivals", "schedule", "moment"],
    (close, "extremes"): ["weights", "arrivals", "schedule"],
    (close, "lateness"): ["weights", "arrivals", "schedule"],
    (close, "judge_close"): ["weights", "arrivals", "schedule"],
    (close, "close_holds"): ["weights", "arrivals", "schedule", "thing"],
    (close, "is_close"): ["weights", "arrivals", "schedule"],
    (buckets, "is_bucket"): ["thing"],
    (buckets, "judge_bucket"): ["arrivals", "flow", "bucket"],
    (buckets, "bucket_holds"): ["arrivals", "flow", "bucket", "thing"],
    (buckets, "shaped"): ["arrivals", "flow", "bucket"],
    (waits, "waits"): ["arrivals", "schedule"],
    (waits, "wait_bound"): ["weights", "flow", "burst", "longest"],
    (waits, "full_arrivals"): ["weights", "flow", "burst"],
    (waits, "near_behind"): ["k"],
    (waits, "full_ahead"): ["weights", "flow", "length"],
    (rows, "is_row"): ["thing"],
    (rows, "through"): ["row", "packets"],
    (rows, "row_bound"): ["row", "burst", "longest"],
    (admission, "are_calls"): ["thing"],
    (admission, "judge_calls"): ["calls", "longest"],
    (admission, "calls_holds"): ["calls", "longest", "thing"],
    (admission, "promises"): ["calls", "longest"],
    (admission, "admitted"): ["calls", "longest"],
    (rules, "schedule_by"): ["rule", "weights", "arrivals"],
    (rules, "made_ahead"): ["n"],
    (rules, "made_behind"): ["n"],
    (live, "Line"): ["weights"],
    (live, "is_state"): ["thing"],
    (live, "continued"): ["state"],
}


class TestInterface(unittest.TestCase):
    def test_functions_have_the_listed_parameters(self):
        for (module, name), parameters in LISTED.items():
            with self.subTest(name):
                found = inspect.signature(getattr(module, name)).parameters
                self.assertEqual(list(found), parameters)

    def test_methods_of_a_line_have_the_listed_parameters(self):
        listed = {"arrive": ["flow", "length"], "go": ["moment"], "now": [], "waiting": [], "state": []}
        for name, parameters in listed.items():
            with self.subTest(name):
                found = inspect.signature(vars(live.Line)[name]).parameters
                self.assertEqual(list(found), ["self"] + parameters)

    def test_each_is_defined_in_its_file(self):
        listed = list(LISTED) + [(errors, name) for name in ERRORS_WITH_THING + ("BadText", "FairError")]
        for module, name in listed:
            with self.subTest(name):
                tree = ast.parse(inspect.getsource(module))
                own = [each.name for each in tree.body if isinstance(each, (ast.FunctionDef, ast.ClassDef))]
                self.assertIn(name, own)


class TestForm(unittest.TestCase):
    def test_the_folder_holds_python_files_only(self):
        names = [path.name for path in PACKAGE.iterdir() if path.name != "__pycache__"]
        self.assertIn("__init__.py", names)
        self.assertEqual([name for name in names if not name.endswith(".py")], [])

    def test_sizes_and_signs(self):
        for path in sorted(PACKAGE.glob("*.py")):
            text = path.read_bytes().decode("utf-8")
            with self.subTest(path.name):
                self.assertLess(len(text.split("\n")), 400)
                self.assertLessEqual(max([len(line) for line in text.split("\n")]), 120)
                self.assertEqual([sign for sign in text if sign != "\n" and not " " <= sign <= "~"], [])

    def test_functions_are_short(self):
        for path in sorted(PACKAGE.glob("*.py")):
            for each in ast.walk(ast.parse(path.read_text())):
                if isinstance(each, ast.FunctionDef):
                    with self.subTest(path.name, function=each.name):
                        self.assertLessEqual(each.end_lineno - each.lineno + 1, 40)


if __name__ == "__main__":
    unittest.main()
