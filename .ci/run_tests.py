"""Runs all test files; fails if a test fails or if none runs.

Each file runs by `python3 -m unittest` in a process of its own, because files
of the two folders may have the same name.
"""

import os
import re
import subprocess
import sys
from pathlib import Path

ROOT = Path(__file__).resolve().parent.parent
FOLDERS = (ROOT / "tests", ROOT.parent / "shared" / "tests")

# From Python 3.12 on unittest ends so for a file without tests.
NO_TESTS_RAN = 5


def run_file(path):
    """How many tests of the file ran, and how many failed."""
    command = [sys.executable, "-m", "unittest", path.stem]
    done = subprocess.run(
        command, cwd=path.parent, env={**os.environ, "PYTHONPATH": str(ROOT)},
        stdin=subprocess.DEVNULL, stdout=subprocess.PIPE, stderr=subprocess.STDOUT, text=True, errors="replace")
    ran = sum(int(many) for many in re.findall(r"^Ran (\d+) tests? in ", done.stdout, re.MULTILINE)[-1:])
    failed = 0
    if done.returncode not in (0, NO_TESTS_RAN):
        closing = re.findall(r"^FAILED \((.*)\)$", done.stdout, re.MULTILINE)[-1:]
        told = re.findall(r"(?:failures|errors|unexpected successes)=(\d+)", "".join(closing))
        # A process that breaks off tells no number, but it has failed.
        failed = max(1, sum(int(many) for many in told))
        print(done.stdout)
    print(f"{path}: {ran} ran, {failed} failed", flush=True)
    return ran, failed


def main():
    files = [path for folder in FOLDERS for path in sorted(folder.rglob("test_*.py"))]
    results = [run_file(path) for path in files]
    ran = sum(result[0] for result in results)
    failed = sum(result[1] for result in results)
    print(f"Ran {ran} tests of {len(files)} files.")
    print(f"{max(0, ran - failed)} passed, {failed} failed")
    return 0 if ran > 0 and failed == 0 else 1


if __name__ == "__main__":
    sys.exit(main())
