"""Papers from below, of any of the kinds."""

from unlikeplace.tries import shown_by_any


def shown(rule, box, thing):
    """What a paper shows for a box by a rule as a tuple (leaves, depth), or None where it doesn't hold; of anything."""
    return shown_by_any(rule, box, thing)
