"""Values copied: what is handed in and out shares no list with what is kept."""


def copied(value):
    """An equal value whose lists are new, also those inside tuples."""
    if isinstance(value, list):
        return [copied(part) for part in value]
    if isinstance(value, tuple):
        return tuple([copied(part) for part in value])
    return value
