"""Stretches of so many hours, for the files that cannot import one another."""

from anyhands.errors import NoStretch


def has_stretch(hours, first, last):
    """Whether first to last is a stretch of so many hours."""
    return 0 <= first <= last < hours


def need_stretch(hours, first, last):
    """Raise NoStretch if first to last is no stretch of so many hours."""
    if not has_stretch(hours, first, last):
        raise NoStretch(first, last)
