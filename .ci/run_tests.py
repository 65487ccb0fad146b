"""Runs the tests of all folders, each in a process of its own.

The folders may hold files of the same name, so they do not share a process.
"""

import json
import os
import subprocess
import sys
import tempfile
import unittest

SHARED = os.path.join("..", "shared", "tests")


def holds_tests(names):
    return any(name.startswith("test_") and name.endswith(".py") for name in names)


def test_folders():
    """Return the folder of the project's tests, and those of the shared ones."""
    folders = ["tests"]
    for folder, below, names in os.walk(SHARED):
        below.sort()
        if holds_tests(names):
            folders.append(folder)
    return folders


def test_files(folder):
    return sorted(name for name in os.listdir(folder) if holds_tests([name]))


def run_folder(folder, report):
    """Run the tests of one folder, and write their numbers to a file."""
    sys.path.insert(0, os.path.abspath(folder))
    names = [name[:-len(".py")] for name in test_files(folder)]
    suite = unittest.defaultTestLoader.loadTestsFromNames(names)
    result = unittest.TextTestRunner(stream=sys.stdout).run(suite)
    # A test with several wrong parts is one wrong test.
    wrong = {test.id().split(" ")[0] for test, _ in result.failures + result.errors}
    wrong.update(test.id() for test in result.unexpectedSuccesses)
    told = {"ran": result.testsRun, "failed": len(wrong), "skipped": len(result.skipped)}
    with open(report, "w", encoding="utf-8") as file:
        json.dump(told, file)


def numbers_of(folder, report):
    """Run one folder in its own process, and return its numbers."""
    if os.path.exists(report):
        os.remove(report)
    print(f"== {folder}", flush=True)
    subprocess.run([sys.executable, __file__, folder, report], check=False)
    if not os.path.exists(report):
        return {"ran": 1, "failed": 1, "skipped": 0}
    with open(report, encoding="utf-8") as file:
        return json.load(file)


def run_all(report):
    totals = {"ran": 0, "failed": 0, "skipped": 0}
    for folder in test_folders():
        for key, number in numbers_of(folder, report).items():
            totals[key] += number
    print(f"ran {totals['ran']} tests")
    passed = max(0, totals["ran"] - totals["failed"] - totals["skipped"])
    print(f"{passed} passed, {totals['failed']} failed, {totals['skipped']} skipped")
    return 0 if totals["failed"] == 0 and passed > 0 else 1


def main():
    if len(sys.argv) == 3:
        run_folder(sys.argv[1], sys.argv[2])
        return 0
    with tempfile.TemporaryDirectory() as folder:
        return run_all(os.path.join(folder, "report.json"))


if __name__ == "__main__":
    sys.exit(main())
