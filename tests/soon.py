"""A limit on how long an answer may take."""

import signal
from contextlib import contextmanager


@contextmanager
def soon(seconds):
    """Fail what is not done in so many seconds, rather than wait for it."""
    def late(number, frame):
        raise AssertionError(f"no answer within {seconds} seconds")

    before = signal.signal(signal.SIGALRM, late)
    signal.setitimer(signal.ITIMER_REAL, seconds)
    try:
        yield
    finally:
        signal.setitimer(signal.ITIMER_REAL, 0)
        signal.signal(signal.SIGALRM, before)
