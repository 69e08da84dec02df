"""The errors of this package."""


class MixError(ValueError):
    """Any error of this package."""


class InvalidBowl(MixError):
    """No bowl size."""

    def __init__(self, at):
        self.at = at


class InvalidRecipe(MixError):
    """No recipe, or no plan of one."""

    def __init__(self, at):
        self.at = at


class InvalidMixture(MixError):
    """No mixture."""

    def __init__(self, at):
        self.at = at


class InvalidTable(MixError):
    """No table."""

    def __init__(self, at):
        self.at = at


class InvalidNaming(MixError):
    """No naming, or no labels."""

    def __init__(self, at):
        self.at = at


class InvalidForm(MixError):
    """No form of a table."""

    def __init__(self, at):
        self.at = at


class InvalidQuestion(MixError):
    """No question, or nothing that can be asked."""

    def __init__(self, at):
        self.at = at


class InvalidPrices(MixError):
    """No prices."""

    def __init__(self, at):
        self.at = at


class InvalidPair(MixError):
    """No pair that fits."""

    def __init__(self, at):
        self.at = at


class InvalidText(MixError):
    """A text that cannot be read."""

    def __init__(self, at):
        self.at = at


class NotFaithful(MixError):
    """A table that breaks a rule."""

    def __init__(self, at):
        self.at = at


class Refused(MixError):
    """Something that cannot be done."""

    def __init__(self, at):
        self.at = at


class InvalidCommand(MixError):
    """No command of a desk."""
