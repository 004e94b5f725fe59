"""Runs every file test_*.py below the folders named; fails if a test fails, or if none was run.

Each file runs in a process of its own, from its own folder: so files of one name in two folders
don't get in each other's way, and a file that fails at once doesn't keep the others from running.
"""

import os
import pathlib
import re
import subprocess
import sys

ROOT = pathlib.Path(__file__).resolve().parent.parent


def environment():
    paths = [str(ROOT), os.environ.get("PYTHONPATH", "")]
    # Nothing but its own files may lie in the package's folder, and the shared folder is only to be read.
    return dict(os.environ, PYTHONPATH=os.pathsep.join([path for path in paths if path]), PYTHONDONTWRITEBYTECODE="1")


def test_files(folders):
    for folder in folders:
        if not folder.is_dir():
            sys.exit(f"no such folder of tests: {folder}")
    return [path for folder in folders for path in sorted(folder.rglob("test_*.py"))]


def number_behind(pattern, text):
    return sum(int(found) for found in re.findall(pattern, text, re.MULTILINE))


def run_file(path):
    """How many tests of the file were run, and how many of them failed."""
    done = subprocess.run(
        [sys.executable, "-m", "unittest", path.stem], cwd=path.parent, env=environment(),
        stdin=subprocess.DEVNULL, stdout=subprocess.PIPE, stderr=subprocess.STDOUT, text=True, errors="replace",
    )
    print(f"== {path}\n{done.stdout}", flush=True)
    ran = number_behind(r"^Ran (\d+) tests? in ", done.stdout)
    last = done.stdout.rstrip().rpartition("\n")[2]
    skipped = number_behind(r"skipped=(\d+)", last)
    failed = number_behind(r"(?:failures|errors|unexpected successes)=(\d+)", last)
    # Newer Pythons end with 5 where a file has no test; whether any test was run is looked at over all files.
    if done.returncode not in (0, 5):
        failed = max(failed, 1)
    return ran - skipped, failed


def main():
    ran = 0
    failed = 0
    for path in test_files([pathlib.Path(name).resolve() for name in sys.argv[1:]]):
        counts = run_file(path)
        ran += counts[0]
        failed += counts[1]
    print(f"{max(ran - failed, 0)} passed, {failed} failed")
    if ran < 1:
        sys.exit("no test was run")
    if failed:
        sys.exit(1)


if __name__ == "__main__":
    main()
