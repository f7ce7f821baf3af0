"""Anyhands: compares lots of errands for all calendars of hands and all prices at once."""
