"""Runs each file of tests in a process of its own, and tells at the end how many tests passed."""

import concurrent.futures
import os
import re
import subprocess
import sys

ROOT = os.path.dirname(os.path.dirname(os.path.abspath(__file__)))
SHARED = os.path.join(os.path.dirname(ROOT), "shared", "tests")


def test_files(folder):
    """The test files in folder and what lies in it, as pairs (their folder, their name)."""
    found = []
    for here, inner, names in os.walk(folder):
        inner.sort()
        found += [(here, name) for name in sorted(names) if name.startswith("test_") and name.endswith(".py")]
    return found


def run(place):
    """How many tests of a file ran and how many failed, and what was printed."""
    here, name = place
    # The file's own folder comes first, so that two folders may have files of one name.
    path = os.pathsep.join([here, ROOT])
    done = subprocess.run([sys.executable, "-W", "error::SyntaxWarning", "-m", "unittest", name[:-3]], cwd=ROOT,
                          env={**os.environ, "PYTHONPATH": path, "PYTHONSAFEPATH": "1"}, stdin=subprocess.DEVNULL,
                          stdout=subprocess.PIPE, stderr=subprocess.STDOUT, text=True)
    ran = re.search(r"^Ran (\d+) tests? in ", done.stdout, re.MULTILINE)
    if not ran:
        return 0, 1, done.stdout
    many = int(ran.group(1))
    told = re.search(r"^(?:OK|FAILED|NO TESTS RAN).*\Z", done.stdout.rstrip(), re.MULTILINE)
    counts = dict(re.findall(r"(\w[\w ]*)=(\d+)", told.group(0) if told else ""))
    failed = sum(int(counts.get(kind, 0)) for kind in ("failures", "errors", "unexpected successes"))
    if done.returncode != 0 or many == 0:
        failed = max(failed, 1)
    return max(many - failed - int(counts.get("skipped", 0)), 0), failed, done.stdout


def main():
    places = test_files(os.path.join(ROOT, "tests")) + test_files(SHARED)
    with concurrent.futures.ThreadPoolExecutor(max_workers=os.cpu_count()) as pool:
        results = list(pool.map(run, places))
    for (here, name), (passed, failed, printed) in zip(places, results):
        print(f"{os.path.relpath(os.path.join(here, name), ROOT)}: {passed} passed, {failed} failed")
        if failed:
            print(printed)
    passed = sum(row[0] for row in results)
    failed = sum(row[1] for row in results)
    print(f"{passed} passed, {failed} failed", flush=True)
    return 1 if failed or not passed else 0


if __name__ == "__main__":
    sys.exit(main())
