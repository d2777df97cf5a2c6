"""Runs every test of the project and every test under ../shared/tests, and tells how many ran."""

import importlib.util
import pathlib
import sys
import unittest

ROOT = pathlib.Path(__file__).resolve().parent.parent
OWN = ROOT / "tests"
SHARED = ROOT.parent / "shared" / "tests"


def load(path, name):
    """The tests of one file, under a name of its own: two folders may have a file called alike."""
    sys.path.insert(0, str(path.parent))
    try:
        spec = importlib.util.spec_from_file_location(name, path)
        module = importlib.util.module_from_spec(spec)
        sys.modules[name] = module
        spec.loader.exec_module(module)
    finally:
        sys.path.remove(str(path.parent))
    return unittest.defaultTestLoader.loadTestsFromModule(module)


def suite_of(folder, label):
    """All tests of the files test_*.py under a folder."""
    suite = unittest.TestSuite()
    for number, path in enumerate(sorted(folder.rglob("test_*.py"))):
        suite.addTest(load(path, f"{label}_{number}_{path.stem}"))
    return suite


def main():
    sys.path.insert(0, str(ROOT))
    own = suite_of(OWN, "own")
    shared = suite_of(SHARED, "shared")
    print(f"{own.countTestCases()} tests of the project, {shared.countTestCases()} under {SHARED}", flush=True)
    if own.countTestCases() == 0:
        sys.exit("the project has no tests")
    result = unittest.TextTestRunner(stream=sys.stdout).run(unittest.TestSuite([own, shared]))
    wrong = {getattr(test, "test_case", test).id() for test, _ in result.failures + result.errors}
    failed = len(wrong) + len(result.unexpectedSuccesses)
    skipped = len(result.skipped)
    print(f"{result.testsRun} tests ran")
    print(f"{result.testsRun - failed - skipped} passed, {failed} failed, {skipped} skipped", flush=True)
    sys.exit(0 if result.wasSuccessful() else 1)


main()
