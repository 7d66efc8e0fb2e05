"""Sheets: rows and events as lines of text."""

from everybowl.floorways import FloorEvent
from everybowl.hub import Rows


def row_sheet(rows):
    """Return a line for each form of the rows."""
    return [f"{form:<8}" + "".join([f"{entry_text(entry):>9}" for entry in rows(form)]) for form in Rows.FORMS]


def entry_text(entry):
    """Return the text of an integer or a Ratio."""
    return f"{entry:,}" if isinstance(entry, int) else entry.text()


def event_sheet(events):
    """Return a line for each event."""
    return [f"{event.time.text():>12} {event_text(event)}" for event in events]


def event_text(event):
    """Return what the line of an event tells behind the time."""
    if isinstance(event, FloorEvent):
        sign = ">" if event.to_right else "<"
        return f"{event.middle} {joined(event.ends)} {event.left}:{event.right} {sign}"
    inner = "-" if event.inner is None else str(event.inner)
    sign = "^" if event.rising else "v"
    return f"{joined(event.triangle)} {inner} {event.level} {sign}"


def joined(numbers):
    """Return the text of numbers with a sign between each two."""
    return "-".join([str(number) for number in numbers])
