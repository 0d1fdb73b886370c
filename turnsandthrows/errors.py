"""The errors of the program."""


class MachineError(ValueError):
    """What all errors of the program have in common."""


class InvalidMachine(MachineError):
    """What should be a machine is none."""


class LettersDiffer(MachineError):
    """Two machines do not have the same number of letters."""


class TooManyStates(MachineError):
    """A machine would have more states than it may have."""


class GoesRound(MachineError):
    """A machine goes round, where only one that does not can be used."""

    def __init__(self, ring):
        super().__init__("the machine goes round")
        self.ring = ring


class SyntaxFault(MachineError):
    """A text is not written as it should be."""

    def __init__(self, column):
        super().__init__(f"fault at column {column}")
        self.column = column


class InvalidLines(MachineError):
    """Some lines are no sentence."""


class InvalidName(MachineError):
    """A text is not a name of a bench."""


class DuplicateName(MachineError):
    """A bench has the name already."""


class UnknownName(MachineError):
    """A bench does not have the name."""


class NameInUse(MachineError):
    """A definition speaks of the name."""


class CircularDefinition(MachineError):
    """A name would hang on itself."""


class NotOwn(MachineError):
    """A name has a definition, where only a machine of its own can be edited."""


class InvalidEdit(MachineError):
    """An edit does not fit the machine."""
