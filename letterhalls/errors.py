"""The errors of the package."""


class HallError(ValueError):
    """The base class of all errors of the package."""


class BadHouse(HallError):
    """A value is no house: `part` is "whole", "halls" or "doors"."""

    def __init__(self, part):
        super().__init__(f"no house: its {part} cannot stand")
        self.part = part


class BadHall(HallError):
    """A value is no hall of the house."""


class BadLettering(HallError):
    """A value is no lettering of the house: `part` is "whole", "kinds" or "letters"."""

    def __init__(self, part):
        super().__init__(f"no lettering: its {part} cannot stand")
        self.part = part


class BadGroup(HallError):
    """A value is no free group: `index` is that of the first item that is no symmetry, or None."""

    def __init__(self, index):
        super().__init__(f"no free group: index {index}")
        self.index = index


class BadKind(HallError):
    """A value is none of the kinds of the lettering."""


class BadNumber(HallError):
    """A value is no number within the limits."""


class BadRow(HallError):
    """A value is no row: `index` is that of the first item that is no letter, or None."""

    def __init__(self, index):
        super().__init__(f"no row: index {index}")
        self.index = index


class BadFold(HallError):
    """A value is no fold: `part` is "whole", "turns" or "table"."""

    def __init__(self, part):
        super().__init__(f"no fold: its {part} cannot stand")
        self.part = part


class NotEven(HallError):
    """A lettering is not even."""


class NoLettering(HallError):
    """There is no even lettering with just so many kinds."""


class NoDoor(HallError):
    """A value is the letter of no door here."""


class BadText(HallError):
    """A value is no string."""


class BadLine(HallError):
    """A text tells no house: `line` and `word` are those of the first word that cannot stand."""

    def __init__(self, line, word):
        super().__init__(f"line {line}, word {word} cannot stand")
        self.line = line
        self.word = word


class BadStep(HallError):
    """There is no step to take back."""


class TooMany(HallError):
    """A house has more than `most` symmetries."""

    def __init__(self, most):
        super().__init__(f"more than {most} symmetries")
        self.most = most
