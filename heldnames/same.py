"""Comparison of any values with places and events."""


def is_same(value, wanted):
    """Return whether any value is equal to a thing of tuples, strings and numbers, and of the same kinds."""
    if isinstance(wanted, tuple):
        if not isinstance(value, tuple) or len(value) != len(wanted):
            return False
        return all([is_same(part, thing) for part, thing in zip(value, wanted)])
    # True and False would be equal to numbers.
    return not isinstance(value, bool) and value == wanted
