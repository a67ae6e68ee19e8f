"""Runs the project's tests and those under ../shared/tests, and tells how many passed and failed."""

import os
import subprocess
import sys
import unittest

ROOT = os.path.dirname(os.path.dirname(os.path.abspath(__file__)))
OWN = os.path.join(ROOT, "tests")
SHARED = os.path.join(os.path.dirname(ROOT), "shared", "tests")


def folders_with_tests(top):
    """The folders from top on downward that hold a test of their own."""
    found = []
    for folder, inner, names in os.walk(top):
        inner.sort()
        if any(name.startswith("test_") and name.endswith(".py") for name in names):
            found.append(folder)
    return found


def run_folder(folder, top):
    """Runs the tests of one folder in this process, and prints its counts as the last line."""
    suite = unittest.TestLoader().discover(folder, pattern="test_*.py", top_level_dir=top)
    result = unittest.TextTestRunner(stream=sys.stdout, verbosity=1).run(suite)
    failed = len(result.failures) + len(result.errors) + len(result.unexpectedSuccesses)
    passed = result.testsRun - failed - len(result.skipped)
    print("counts", max(passed, 0), failed, len(result.skipped))


def counts_of(folder, top):
    """Runs a folder's tests in a process of its own; (passed, failed, skipped)."""
    # A process for each folder: files of one name in two folders would be one module otherwise.
    path = os.pathsep.join([ROOT] + [part for part in [os.environ.get("PYTHONPATH")] if part])
    told = subprocess.run([sys.executable, "-B", os.path.abspath(__file__), folder, top], cwd=ROOT,
                          env={**os.environ, "PYTHONPATH": path}, stdout=subprocess.PIPE,
                          stderr=subprocess.STDOUT, text=True, check=False)
    lines = told.stdout.rstrip("\n").split("\n")
    words = lines[-1].split()
    if told.returncode != 0 or len(words) != 4 or words[0] != "counts":
        print(told.stdout)
        return 0, 1, 0
    print("\n".join(lines[:-1]))
    return int(words[1]), int(words[2]), int(words[3])


def main():
    all_counts = [counts_of(OWN, ROOT)]
    if all_counts[0][0] == 0:
        print("the project's own tests did not run")
        all_counts.append((0, 1, 0))
    if os.path.isdir(SHARED):
        all_counts += [counts_of(folder, folder) for folder in folders_with_tests(SHARED)]
    passed, failed, skipped = [sum(column) for column in zip(*all_counts)]
    print(f"{passed} passed, {failed} failed, {skipped} skipped")
    return 1 if failed else 0


if __name__ == "__main__":
    if len(sys.argv) == 3:
        run_folder(sys.argv[1], sys.argv[2])
    else:
        sys.exit(main())
