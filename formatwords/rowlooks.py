"""Rows looked at."""

from formatwords.written import write


def is_row(word, number, row):
    """Whether this, whatever it is, is the row of a number."""
    return isinstance(row, str) and row == write(word, number)
