"""Runs the tests: `suite.py` all of them, `suite.py FOLDER` those of one folder in this process.

The tests of each folder run in a process of their own, so that files in several folders may have the same
name. They run on every Python from 3.11 to 3.13 that is found, since the program must behave alike on them.
"""
import pathlib
import subprocess
import sys
import unittest

HERE = pathlib.Path(__file__).resolve().parent.parent
SHARED = HERE.parent / "shared" / "tests"


def run_folder(folder):
    """Runs the tests of a folder and prints how many passed and failed; returns the exit code."""
    sys.path.insert(0, str(HERE))
    top = HERE if folder == HERE / "tests" else folder
    suite = unittest.defaultTestLoader.discover(str(folder), pattern="test_*.py", top_level_dir=str(top))
    result = unittest.TextTestRunner(stream=sys.stdout).run(suite)
    failed = len(result.failures) + len(result.errors) + len(result.unexpectedSuccesses)
    if result.testsRun == 0 and failed == 0:
        print(f"no test ran in {folder}")
        failed = 1
    print(f"counted {max(0, result.testsRun - failed)} {failed}", flush=True)
    return 1 if failed else 0


def pythons():
    """One interpreter for each version of Python that can be found, the one that runs this first."""
    found = {}
    installed = sorted(pathlib.Path.home().glob(".pyenv/versions/3.1[123]*/bin/python3"))
    for command in [sys.executable, "python3.11", "python3.12", "python3.13", *map(str, installed)]:
        try:
            told = subprocess.run([command, "-c", "import sys; print(sys.version_info[:2])"],
                                  capture_output=True, text=True, timeout=60)
        except OSError:
            continue
        if told.returncode == 0:
            found.setdefault(told.stdout.strip(), command)
    return found


def run_all():
    """Runs the tests of all folders on all Pythons; returns the exit code."""
    folders = [HERE / "tests"] + ([SHARED] if SHARED.is_dir() and any(SHARED.rglob("test_*.py")) else [])
    passed, failed = 0, 0
    for folder in folders:
        # All Pythons at once: each of them has a process of its own.
        running = [(version, subprocess.Popen([command, "-B", __file__, str(folder)], stdout=subprocess.PIPE, text=True,
                                              cwd=HERE)) for version, command in pythons().items()]
        for version, process in running:
            told, _ = process.communicate()
            print(f"Python {version}, {folder}\n{told}", flush=True)
            counts = [line.split()[1:] for line in told.splitlines() if line.startswith("counted ")]
            more, bad = map(int, counts[-1]) if counts else (0, 1)
            passed, failed = passed + more, failed + max(bad, 1 if process.returncode else 0)
    print(f"{passed} passed, {failed} failed")
    return 1 if failed else 0


if __name__ == "__main__":
    sys.exit(run_folder(pathlib.Path(sys.argv[1])) if len(sys.argv) > 1 else run_all())
