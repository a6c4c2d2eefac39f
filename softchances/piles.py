"""What is now and all that was before it, for what can be changed, taken back and tried."""


class Pile:
    """What is now, above the pile of what was before, None if nothing was; it never changes."""

    def __init__(self, top, below):
        self.top = top
        self.below = below
        self.height = 0 if below is None else below.height + 1


class Trial:
    """For a `with` statement, behind which its owner has the pile again that it had ahead of it."""

    def __init__(self, owner):
        self._owner = owner
        self._kept = None

    def __enter__(self):
        # A trial may be entered within itself, so what is kept is a pile, too.
        self._kept = Pile(self._owner.pile, self._kept)
        return self._owner

    def __exit__(self, kind, value, trace):
        self._owner.pile = self._kept.top
        self._kept = self._kept.below
