"""A desk that takes orders, line by line, and answers them ([G1])."""

from causaleffects.bounds import bounds
from causaleffects.errors import CausalError, InvalidAsked, InvalidLine, InvalidText
from causaleffects.formulas import MOST_TOLD, need_asked
from causaleffects.grammar import take_graph, take_lot, take_model, take_variable
from causaleffects.graphs import children, parents
from causaleffects.identify import formula, least_told, single_lots, stuck
from causaleffects.modelforms import is_model
from causaleffects.models import effect, table
from causaleffects.reader import Reader
from causaleffects.rounds import ancestors, districts, needs
from causaleffects.text import formula_text, lot_text, ratio_text, row_text

WITHOUT_GRAPH = ("graph", "model")
WITH_MODEL = ("table", "chances", "bounds")


def answer_graph(desk, reader):
    """Take a graph."""
    graph = take_graph(reader)
    reader.finish()
    take_to(desk, graph, None)
    names, arrows, lots = graph
    return (", ".join([counted(names, "variable"), counted(arrows, "arrow"), counted(lots, "hidden lot")]),)


def answer_model(desk, reader):
    """Take a model and its graph."""
    model = take_model(reader)
    reader.finish()
    if not is_model(model):
        return ("no model",)
    take_to(desk, model[0], model)
    return (counted(model[1], "variable"),)


def take_to(desk, graph, model):
    """Put a graph and its model, or None, on the desk; told is what is seen of all variables."""
    desk.graph = graph
    desk.lots = (tuple(range(len(graph[0]))),)
    desk.model = model


def answer_told(desk, reader):
    """Take told lots."""
    lots = [take_lot(reader, desk.graph[0])]
    while reader.passes(","):
        lots.append(take_lot(reader, desk.graph[0]))
    reader.finish()
    if len(lots) > MOST_TOLD:
        return ("too many lots",)
    for at, lot in enumerate(lots):
        if lot == () or lot in lots[:at]:
            return ("not told " + lot_text(desk.graph[0], lot),)
    desk.lots = tuple(lots)
    return (counted(lots, "lot"),)


def answer_effect(desk, reader):
    """The formula of an effect, or where it is stuck."""
    deeds, asked = take_asked(desk, reader)
    found = stuck(desk.graph, desk.lots, deeds, asked)
    if found is None:
        return (formula_text(desk.graph[0], formula(desk.graph, desk.lots, deeds, asked)),)
    district, hedges = found
    return ("not identified: " + lot_text(desk.graph[0], district),) + lot_texts(desk, hedges)


def answer_needs(desk, reader):
    """The districts that an effect needs."""
    deeds, asked = take_asked(desk, reader)
    return some(lot_texts(desk, needs(desk.graph, deeds, asked)))


def answer_least(desk, reader):
    """The least lots of indexes of told lots that are enough."""
    deeds, asked = take_asked(desk, reader)
    found = least_told(desk.graph, desk.lots, deeds, asked)
    return some(tuple([", ".join(str(at) for at in indexes) for indexes in found]))


def answer_single(desk, reader):
    """The lots that are enough, each told alone."""
    deeds, asked = take_asked(desk, reader)
    return some(lot_texts(desk, single_lots(desk.graph, deeds, asked)))


def answer_parents(desk, reader):
    """The parents of a variable."""
    return lot_texts(desk, [parents(desk.graph, take_name(desk, reader))])


def answer_children(desk, reader):
    """The children of a variable."""
    return lot_texts(desk, [children(desk.graph, take_name(desk, reader))])


def answer_ancestors(desk, reader):
    """The ancestors of a lot within all variables."""
    lot = take_whole_lot(desk, reader)
    return lot_texts(desk, [ancestors(desk.graph, tuple(range(len(desk.graph[0]))), lot)])


def answer_districts(desk, reader):
    """The districts of a lot."""
    return some(lot_texts(desk, districts(desk.graph, take_whole_lot(desk, reader))))


def answer_table(desk, reader):
    """The model's table of a lot."""
    return (row_text(table(desk.model, take_whole_lot(desk, reader))),)


def answer_chances(desk, reader):
    """An effect in the model."""
    deeds, asked = take_asked(desk, reader)
    return (row_text(effect(desk.model, deeds, asked)),)


def answer_bounds(desk, reader):
    """The least and the greatest chance over all models that tell the model's told tables."""
    graph, sizes = desk.graph, desk.model[1]
    deeds, asked = take_lot_on_lot(desk, reader)
    reader.take(":")
    setting = take_values(reader, [sizes[one] for one in deeds + asked])
    reader.finish()
    need_asked(graph, deeds, asked)
    tables = tuple([table(desk.model, lot) for lot in desk.lots])
    try:
        least, greatest = bounds(graph, sizes, desk.lots, tables, (deeds, asked, setting))
    except CausalError:
        return ("no bounds",)
    return (f"{ratio_text(least)} to {ratio_text(greatest)}",)


def take_lot_on_lot(desk, reader):
    """Deeds and what is asked."""
    deeds = take_lot(reader, desk.graph[0])
    reader.take("on")
    return (deeds, take_lot(reader, desk.graph[0]))


def take_asked(desk, reader):
    """Deeds and what is asked, behind which nothing stands."""
    deeds, asked = take_lot_on_lot(desk, reader)
    reader.finish()
    return (deeds, asked)


def take_whole_lot(desk, reader):
    """A LOT, behind which nothing stands."""
    lot = take_lot(reader, desk.graph[0])
    reader.finish()
    return lot


def take_name(desk, reader):
    """The name of a variable, behind which nothing stands."""
    variable = take_variable(reader, desk.graph[0], [])
    reader.finish()
    return desk.graph[0][variable]


def take_values(reader, sizes):
    """A value below each of these sizes."""
    values = []
    for size in sizes:
        if values:
            reader.take(",")
        values.append(reader.take_number(0, size - 1))
    return tuple(values)


def lot_texts(desk, lots):
    """The texts of lots."""
    return tuple([lot_text(desk.graph[0], lot) for lot in lots])


def some(texts):
    """Texts, of which none are told by a word."""
    return texts or ("none",)


def counted(row, word):
    """How many there are in a row of what the word names one of."""
    if len(row) == 1:
        return "1 " + word
    return f"{len(row)} {word}s"


ORDERS = {
    "graph": answer_graph, "model": answer_model, "told": answer_told, "effect": answer_effect, "needs": answer_needs,
    "least": answer_least, "single": answer_single, "parents": answer_parents, "children": answer_children,
    "ancestors": answer_ancestors, "districts": answer_districts, "table": answer_table, "chances": answer_chances,
    "bounds": answer_bounds,
}


class Desk:
    """A desk: the graph, the told lots and the model on it, each None where there is none."""

    def __init__(self):
        self.graph = None
        self.lots = None
        self.model = None

    def say(self, line):
        """The answer to a line, a tuple of texts."""
        if type(line) is not str:
            raise InvalidLine(line)
        word, blank, rest = line.partition(" ")
        if blank == "" or word not in ORDERS:
            return ("no such line",)
        if self.graph is None and word not in WITHOUT_GRAPH:
            return ("no graph",)
        if self.model is None and word in WITH_MODEL:
            return ("no model",)
        answer = ORDERS[word]
        try:
            return answer(self, Reader(rest))
        except InvalidText as refused:
            return (f"bad text at {refused.line} {refused.column}",)
        except InvalidAsked:
            return ("not asked so",)

    def told(self):
        """The pair of the graph and the told lots, None where there is no graph."""
        if self.graph is None:
            return None
        return (self.graph, self.lots)
