"""The errors of the package: all stand under CausalError, and each keeps what it is made with."""


class CausalError(ValueError):
    """Every error that this package tells of."""


class InvalidGraph(CausalError):
    """What was given is no GRAPH."""

    def __init__(self, given):
        self.given = given


class InvalidName(CausalError):
    """What was given is no name of a variable of the graph."""

    def __init__(self, given):
        self.given = given


class InvalidLot(CausalError):
    """What was given is no LOT of the graph, or none that is allowed there."""

    def __init__(self, given):
        self.given = given


class InvalidSizes(CausalError):
    """What was given are no SIZES of the graph."""

    def __init__(self, given):
        self.given = given


class InvalidModel(CausalError):
    """What was given is no MODEL, or the text of none."""

    def __init__(self, given):
        self.given = given


class InvalidAsked(CausalError):
    """What was given cannot be asked so."""

    def __init__(self, given):
        self.given = given


class InvalidFormula(CausalError):
    """What was given is no FORMULA, or the text of none."""

    def __init__(self, given):
        self.given = given


class TooMany(CausalError):
    """So many, the number given, are too many."""

    def __init__(self, given):
        self.given = given


class InvalidLine(CausalError):
    """What was given to a desk is no text."""

    def __init__(self, given):
        self.given = given


class NotWithin(CausalError):
    """What was given is not within the lot."""

    def __init__(self, given):
        self.given = given


class InvalidDerivation(CausalError):
    """What was given is no derivation of the effect."""

    def __init__(self, given):
        self.given = given


class InvalidWeights(CausalError):
    """What was given are no WEIGHTS, or none that tell the tables."""

    def __init__(self, given):
        self.given = given


class NotBetween(CausalError):
    """What was given is no chance from the least to the greatest one."""

    def __init__(self, given):
        self.given = given


class InvalidTold(CausalError):
    """The told lot at the index is wrong; at None all of them are."""

    def __init__(self, index):
        self.index = index


class InvalidTables(CausalError):
    """The table at the index is wrong; at None all of them are."""

    def __init__(self, index):
        self.index = index


class InvalidHedges(CausalError):
    """The hedge at the index is wrong; at None all of them are."""

    def __init__(self, index):
        self.index = index


class InvalidText(CausalError):
    """The text is refused at this line and column; None for both: it is no text."""

    def __init__(self, line, column):
        self.line = line
        self.column = column


class NotIdentified(CausalError):
    """The effect is not identified: no told lot tells this lot."""

    def __init__(self, lot):
        self.lot = lot


class Identified(CausalError):
    """The effect is identified, so no two models differ in it."""


class NoModel(CausalError):
    """No model tells these tables."""
