"""Verdicts: what can become of a kind of write in any store, with a case for each answer."""


class Case:
    """A store, a write, and least meanings of the write in the store."""

    def __init__(self, store, write, meanings):
        self.store = store
        self.write = write
        self.meanings = list(meanings)


class Verdict:
    """The cases in which a kind of write has no meaning, one, and several; None where there is none."""

    def __init__(self, none, some, several):
        self.none = none
        self.some = some
        self.several = several

    @property
    def always_one(self):
        """True if each possible write of this kind has exactly one least meaning."""
        return self.none is None and self.some is not None and self.several is None
