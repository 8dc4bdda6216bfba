"""Deeds that can be undone, from the last one back."""

from heldnames.errors import NothingToUndo


class Deeds:
    """What has been done and not undone, each deed with what there was ahead of it."""

    def __init__(self):
        self._done = []

    def note(self, deed, before):
        """Note one more deed, and what there was ahead of it."""
        self._done.append((deed, before))

    def back(self):
        """Forget the last deed, and return what there was ahead of it."""
        if not self._done:
            raise NothingToUndo()
        _, before = self._done.pop()
        return before

    def log(self):
        """Return the list of the deeds, from the first to the last."""
        return [deed for deed, _ in self._done]

    def copy(self):
        """Return the same deeds, to go on with independently."""
        twin = Deeds()
        twin._done = list(self._done)
        return twin
