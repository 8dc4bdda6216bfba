"""The errors of the package."""


class HeldError(ValueError):
    """What all errors of the package have in common."""


class InvalidList(HeldError):
    """An argument has to be a list, and is none or does not fit as one."""

    def __init__(self, value=None):
        super().__init__("this is no list that fits here")
        self.value = value


class InvalidItem(HeldError):
    """An item does not fit where it stands."""

    def __init__(self, value=None):
        super().__init__("this item does not fit here")
        self.value = value


class InvalidProgram(HeldError):
    """An argument has to be a program, and is none or does not fit."""

    def __init__(self, value=None):
        super().__init__("this is no program that fits here")
        self.value = value


class InvalidWord(HeldError):
    """An argument has to be one of the words of steps, and is none."""

    def __init__(self, value=None):
        super().__init__("this is no word of a step")
        self.value = value


class InvalidPlace(HeldError):
    """An argument has to be the place of a step, and is none."""

    def __init__(self, value=None):
        super().__init__("this is no place of a step that fits here")
        self.value = value


class InvalidRun(HeldError):
    """An argument has to be a run, and is none."""

    def __init__(self, value=None):
        super().__init__("this is no run of the program")
        self.value = value


class InvalidCells(HeldError):
    """An argument has to be cells, and is none."""

    def __init__(self, value=None):
        super().__init__("these are no cells for the program")
        self.value = value


class InvalidText(HeldError):
    """An argument has to be the text of a program, and is none."""

    def __init__(self, value=None):
        super().__init__("this is no text of a program")
        self.value = value


class InvalidName(HeldError):
    """An argument has to be a name, and is none."""

    def __init__(self, name=None):
        super().__init__("this is no name")
        self.name = name


class TakenName(HeldError):
    """A name is in use already."""

    def __init__(self, name=None):
        super().__init__("this name is in use already")
        self.name = name


class UnknownName(HeldError):
    """An argument has to be a name that is known here, and is none."""

    def __init__(self, name=None):
        super().__init__("this name is not known here")
        self.name = name


class NothingToUndo(HeldError):
    """There is no deed that could be undone."""

    def __init__(self):
        super().__init__("there is nothing to undo")
