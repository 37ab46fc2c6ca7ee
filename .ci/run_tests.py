"""Runs the tests of one folder: python3 run_tests.py FOLDER TOP. Fails if one fails or none is found."""

import sys
import unittest


def main(folder, top):
    suite = unittest.TestLoader().discover(folder, pattern="test_*.py", top_level_dir=top)
    result = unittest.TextTestRunner(verbosity=1, buffer=True).run(suite)
    failed = len(result.failures) + len(result.errors) + len(result.unexpectedSuccesses)
    skipped = len(result.skipped)
    passed = result.testsRun - failed - skipped
    print(f"{max(passed, 0)} passed, {failed} failed, {skipped} skipped", flush=True)
    return 0 if result.wasSuccessful() and passed > 0 else 1


sys.exit(main(sys.argv[1], sys.argv[2]))
