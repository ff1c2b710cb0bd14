"""Runs each test_*.py below the folders named, each file in a process of its own, several at once.

Two files of one name in two folders do not meet in one process, so neither hides the other.
"""

import concurrent.futures
import os
import re
import subprocess
import sys

MOST_SECONDS = 4500


def test_files(folder):
    """All test_*.py below the folder; none where there is no such folder."""
    found = []
    for place, _, names in os.walk(folder):
        found += [os.path.join(place, name) for name in names if re.fullmatch(r"test_.*\.py", name)]
    return sorted(found)


def run(path):
    """Runs one file: (how many tests ran, whether all passed, what was printed)."""
    place, name = os.path.split(os.path.abspath(path))
    try:
        done = subprocess.run(
            [sys.executable, "-m", "unittest", name[:-3]], cwd=place, stdout=subprocess.PIPE,
            stderr=subprocess.STDOUT, stdin=subprocess.DEVNULL, text=True, timeout=MOST_SECONDS)
    except subprocess.TimeoutExpired:
        return 0, False, "took too long\n"
    ran = re.search(r"^Ran (\d+) tests? in", done.stdout, re.MULTILINE)
    return int(ran.group(1)) if ran else 0, done.returncode == 0, done.stdout


def failures(printed):
    """How many tests of a file that did not pass failed: one where the file did not even load."""
    return max(1, sum(int(number) for number in re.findall(r"(?:failures|errors|successes)=(\d+)", printed)))


def main(folders):
    paths = [path for folder in folders for path in test_files(folder)]
    passed = failed = 0
    with concurrent.futures.ThreadPoolExecutor(os.cpu_count() or 1) as pool:
        for path, (ran, good, printed) in zip(paths, pool.map(run, paths)):
            print(path + ":", printed.strip().split("\n")[-1] if good else "\n" + printed, f"({ran} tests)", flush=True)
            wrong = 0 if good else failures(printed)
            failed += wrong
            passed += max(0, ran - wrong)
    print(f"{passed} passed, {failed} failed")
    return 0 if passed and not failed else 1


if __name__ == "__main__":
    sys.exit(main(sys.argv[1:]))
