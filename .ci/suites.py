"""Runs the suites with "python3 -m unittest" and closes with a line that tells how many tests passed and failed."""

import os
import re
import subprocess
import sys

ROOT = os.path.dirname(os.path.dirname(os.path.abspath(__file__)))
SHARED = os.path.join(os.path.dirname(ROOT), "shared", "tests")


def shared_files():
    """The pairs (folder, file name) of the shared tests, in order."""
    found = []
    for folder, _, names in os.walk(SHARED):
        found.extend((folder, name) for name in names if re.fullmatch(r"test_.*\.py", name))
    return sorted(found)


def suites():
    """Triples of a folder, a pattern and the folder from which modules are imported."""
    yield os.path.join(ROOT, "tests"), "test_*.py", ROOT
    for folder, name in shared_files():
        yield folder, name, folder


def run(folder, pattern, top):
    """How many tests of one suite passed and failed; a suite that ends badly or has no test has one failed."""
    words = [sys.executable, "-m", "unittest", "discover", "-s", folder, "-p", pattern, "-t", top]
    found = {**os.environ, "PYTHONPATH": ROOT, "PYTHONDONTWRITEBYTECODE": "1"}
    done = subprocess.run(words, cwd=ROOT, env=found, stdout=subprocess.PIPE, stderr=subprocess.STDOUT, text=True)
    print(done.stdout, flush=True)
    lines = re.findall(r"^Ran (\d+) tests? in .*$", done.stdout, re.MULTILINE)
    ran = int(lines[-1]) if lines else 0
    closing = done.stdout.strip().rsplit("\n", 1)[-1]
    bad = sum(int(many) for many in re.findall(r"(?:failures|errors|unexpected successes)=(\d+)", closing))
    if bad == 0 and (done.returncode != 0 or ran == 0):
        bad = 1
    return max(0, ran - bad), bad


def main():
    results = [run(*suite) for suite in suites()]
    passed = sum(one for one, _ in results)
    failed = sum(one for _, one in results)
    print(f"{passed} passed, {failed} failed")
    return 1 if failed else 0


if __name__ == "__main__":
    sys.exit(main())
