"""Run each test file in a process of its own, so that files of the same name in two folders do not meet."""

import os
import re
import subprocess
import sys
from pathlib import Path

ROOT = Path(__file__).resolve().parent.parent
FOLDERS = (ROOT / "tests", ROOT.parent / "shared" / "tests")


def test_files():
    """All test files, the project's own first."""
    return [path for folder in FOLDERS for path in sorted(folder.rglob("test_*.py"))]


def count(pattern, text):
    """The sum of the integers that a pattern finds in a text."""
    return sum(int(found) for found in re.findall(pattern, text))


def run_file(path):
    """The pair (passed, failed) of one file."""
    paths = [str(ROOT)] + [place for place in [os.environ.get("PYTHONPATH")] if place]
    env = dict(os.environ, PYTHONPATH=os.pathsep.join(paths), PYTHONDONTWRITEBYTECODE="1")
    done = subprocess.run(
        [sys.executable, "-m", "unittest", path.stem],
        cwd=path.parent, env=env, stdout=subprocess.PIPE, stderr=subprocess.STDOUT, text=True,
    )
    ran = count(r"(?m)^Ran (\d+) tests? in ", done.stdout)
    summary = (re.findall(r"(?m)^(?:OK|FAILED) \(.*\)$", done.stdout) or [""])[-1]
    failed = count(r"(?:(?<!expected )failures|errors|unexpected successes)=(\d+)", summary)
    skipped = count(r"skipped=(\d+)", summary)
    # Newer Pythons end with 5 where a file holds no test: that is no failure.
    if done.returncode not in (0, 5) or done.returncode == 5 and ran > 0:
        failed = max(failed, 1)
    print(f"{path}: {ran} ran, {failed} failed, {skipped} skipped", flush=True)
    if failed:
        print(done.stdout, flush=True)
    return (max(ran - failed - skipped, 0), failed)


def main():
    """Run all files and tell the sums."""
    results = [run_file(path) for path in test_files()]
    passed = sum(row[0] for row in results)
    failed = sum(row[1] for row in results)
    print(f"{passed} passed, {failed} failed")
    if failed or not passed:
        sys.exit(1)


if __name__ == "__main__":
    main()
