"""Graphs, lots, models and formulas as texts, read and shown ([A5] to [A7])."""

from causaleffects.errors import InvalidFormula, InvalidModel
from causaleffects.formulas import is_formula, need_formula, need_told
from causaleffects.grammar import take_formula, take_graph, take_lot, take_model
from causaleffects.graphs import need_graph, need_lot
from causaleffects.modelforms import is_model, need_model
from causaleffects.reader import Reader


def read_graph(text):
    """The GRAPH that a text tells."""
    reader = Reader(text)
    graph = take_graph(reader)
    reader.finish()
    return graph


def read_lot(graph, text):
    """The LOT of the graph that a text tells."""
    need_graph(graph)
    reader = Reader(text)
    lot = take_lot(reader, graph[0])
    reader.finish()
    return lot


def read_model(text):
    """The MODEL that a text tells."""
    reader = Reader(text)
    model = take_model(reader)
    reader.finish()
    if not is_model(model):
        raise InvalidModel(text)
    return model


def read_formula(graph, told, text):
    """The FORMULA over the told lots that a text tells."""
    need_graph(graph)
    need_told(graph, told)
    reader = Reader(text)
    formula = take_formula(reader, graph[0], len(told))
    reader.finish()
    if not is_formula(graph, told, formula):
        raise InvalidFormula(text)
    return formula


def show_graph(graph):
    """The text of a GRAPH."""
    need_graph(graph)
    return "\n".join(graph_lines(graph))


def show_lot(graph, lot):
    """The text of a LOT."""
    need_graph(graph)
    need_lot(graph, lot)
    return lot_text(graph[0], lot)


def show_model(model):
    """The text of a MODEL."""
    need_model(model)
    graph, sizes, hidden, rows = model
    lines = graph_lines(graph)
    lines.append("sizes " + ", ".join(str(size) for size in sizes) + ";")
    for lot, row in zip(graph[2], hidden):
        lines.append(f"lot {lot_text(graph[0], lot)}: {row_text(row)};")
    for name, lot_rows in zip(graph[0], rows):
        lines.append(f"table {name}: " + " | ".join(row_text(row) for row in lot_rows) + ";")
    return "\n".join(lines)


def show_formula(graph, told, formula):
    """The text of a FORMULA over the told lots."""
    need_graph(graph)
    need_told(graph, told)
    need_formula(graph, told, formula)
    return formula_text(graph[0], formula)


def graph_lines(graph):
    """The lines of the text of a GRAPH."""
    names, arrows, lots = graph
    lines = ["names " + ", ".join(names) + ";"]
    if arrows:
        lines.append("arrows " + ", ".join(f"{names[start]} -> {names[end]}" for start, end in arrows) + ";")
    if lots:
        lines.append("hidden " + ", ".join(lot_text(names, lot) for lot in lots) + ";")
    return lines


def lot_text(names, lot):
    """The text of a LOT of variables with these names."""
    return "{" + ", ".join(names[one] for one in lot) + "}"


def row_text(row):
    """The text of a ROW."""
    return ", ".join(ratio_text(one) for one in row)


def ratio_text(one):
    """The text of a RATIO."""
    if one[1] == 1:
        return str(one[0])
    return f"{one[0]}/{one[1]}"


def formula_text(names, formula):
    """The text of a FORMULA."""
    word = formula[0]
    if word == "told":
        return f"told {formula[1]}"
    if word == "sum":
        return f"sum {lot_text(names, formula[1])} {single_text(names, formula[2])}"
    if word == "over":
        return f"{product_text(names, formula[1])} / {product_text(names, formula[2])}"
    return " * ".join(single_text(names, factor) for factor in formula[1:])


def product_text(names, formula):
    """The text of a FORMULA beside the sign / of another one."""
    if formula[0] == "over":
        return f"({formula_text(names, formula)})"
    return formula_text(names, formula)


def single_text(names, formula):
    """The text of a FORMULA behind sum, or as a factor."""
    if formula[0] == "times":
        return f"({formula_text(names, formula)})"
    return product_text(names, formula)
