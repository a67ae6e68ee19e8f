"""Runs the project's tests and those under ../shared/tests, and tells how many passed and failed."""

import os
import subprocess
import sys
import unittest
from concurrent.futures import ThreadPoolExecutor

ROOT = os.path.dirname(os.path.dirname(os.path.abspath(__file__)))
OWN = os.path.join(ROOT, "tests")
SHARED = os.path.join(os.path.dirname(ROOT), "shared", "tests")


def is_test_file(name):
    return name.startswith("test_") and name.endswith(".py")


def folders_with_tests(top):
    """The folders from top on downward that hold a test of their own."""
    found = []
    for folder, inner, names in os.walk(top):
        inner.sort()
        if any(is_test_file(name) for name in names):
            found.append(folder)
    return found


def jobs():
    """(folder, pattern, top) of what is run in one process: each own file, and each folder of the shared tests."""
    # A process for each shared folder: files of one name in two folders would be one module otherwise.
    found = [(OWN, name, ROOT) for name in sorted(os.listdir(OWN)) if is_test_file(name)]
    if os.path.isdir(SHARED):
        found += [(folder, "test_*.py", folder) for folder in folders_with_tests(SHARED)]
    return found


def run_tests(folder, pattern, top):
    """Runs tests in this process, and prints their counts as the last line."""
    suite = unittest.TestLoader().discover(folder, pattern=pattern, top_level_dir=top)
    result = unittest.TextTestRunner(stream=sys.stdout, verbosity=1).run(suite)
    failed = len(result.failures) + len(result.errors) + len(result.unexpectedSuccesses)
    passed = result.testsRun - failed - len(result.skipped)
    print("counts", max(passed, 0), failed, len(result.skipped))


def told_by(job):
    """What a process of its own prints that runs the tests of a job, and (passed, failed, skipped)."""
    path = os.pathsep.join([ROOT] + [part for part in [os.environ.get("PYTHONPATH")] if part])
    done = subprocess.run([sys.executable, "-B", os.path.abspath(__file__), *job], cwd=ROOT,
                          env={**os.environ, "PYTHONPATH": path}, stdout=subprocess.PIPE,
                          stderr=subprocess.STDOUT, text=True, check=False)
    lines = done.stdout.rstrip("\n").split("\n")
    words = lines[-1].split()
    if done.returncode != 0 or len(words) != 4 or words[0] != "counts":
        return done.stdout, (0, 1, 0)
    counts = tuple(int(word) for word in words[1:])
    if counts == (0, 0, 0) and job[0] == OWN:
        return "no test ran", (0, 1, 0)
    return "\n".join(lines[:-1]), counts


def main():
    found = jobs()
    all_counts = [(0, 0, 0)]
    if not found or found[0][0] != OWN:
        print("the project has no tests")
        all_counts.append((0, 1, 0))
    with ThreadPoolExecutor(min(os.cpu_count() or 1, 8)) as pool:
        for job, (text, counts) in zip(found, pool.map(told_by, found)):
            print(os.path.join(os.path.relpath(job[0], ROOT), job[1]))
            print(text, flush=True)
            all_counts.append(counts)
    passed, failed, skipped = [sum(column) for column in zip(*all_counts)]
    print(f"{passed} passed, {failed} failed, {skipped} skipped")
    return 1 if failed else 0


if __name__ == "__main__":
    if len(sys.argv) == 4:
        run_tests(*sys.argv[1:])
    else:
        sys.exit(main())
