"""The forms of texts ([A6]): each function takes what it is named for from a reader."""

from causaleffects.graphs import MOST_HIDDEN_LOTS, MOST_VARIABLES, is_name
from causaleffects.modelforms import GREATEST_SIZE, LEAST_SIZE
from causaleffects.ratios import ratio
from causaleffects.reader import refuse

MOST_HELD = 60


def take_graph(reader):
    """A GRAPH."""
    reader.take("names")
    names = take_names(reader)
    arrows = ()
    if reader.passes("arrows"):
        arrows = take_arrows(reader, names)
    lots = ()
    if reader.passes("hidden"):
        lots = take_hidden_lots(reader, names)
    return (names, arrows, lots)


def take_names(reader):
    """What stands behind the word names."""
    names = [take_new_name(reader, [])]
    while reader.passes(","):
        names.append(take_new_name(reader, names))
    reader.take(";")
    return tuple(names)


def take_new_name(reader, names):
    """One more name than these."""
    token = reader.token()
    name = token[1]
    if not is_name(name) or name in names or len(names) == MOST_VARIABLES:
        refuse(token)
    reader.step()
    return name


def take_variable(reader, names, barred):
    """The index of a variable, which is not one of the barred."""
    token = reader.token()
    if token[1] not in names or names.index(token[1]) in barred:
        refuse(token)
    reader.step()
    return names.index(token[1])


def take_arrows(reader, names):
    """What stands behind the word arrows."""
    arrows = take_chain(reader, names, [])
    while reader.passes(","):
        arrows = arrows + take_chain(reader, names, arrows)
    reader.take(";")
    return tuple(sorted(arrows))


def take_chain(reader, names, ahead):
    """The arrows of a CHAIN, unlike those that stand ahead."""
    start = take_variable(reader, names, [])
    reader.take("->")
    chain = [take_arrow(reader, names, start, ahead)]
    while reader.passes("->"):
        chain.append(take_arrow(reader, names, chain[-1][1], ahead))
    return chain


def take_arrow(reader, names, start, ahead):
    """The arrow from the start to the variable behind the sign ->."""
    barred = [one for one in range(len(names)) if one <= start or (start, one) in ahead]
    return (start, take_variable(reader, names, barred))


def take_hidden_lots(reader, names):
    """What stands behind the word hidden."""
    lots = [take_hidden_lot(reader, names, [])]
    while reader.passes(","):
        lots.append(take_hidden_lot(reader, names, lots))
    reader.take(";")
    return tuple(sorted(lots))


def take_hidden_lot(reader, names, ahead):
    """One more hidden lot than these."""
    bracket = reader.token()
    lot = take_lot(reader, names)
    if len(lot) < 2 or lot in ahead or len(ahead) == MOST_HIDDEN_LOTS:
        refuse(bracket)
    return lot


def take_lot(reader, names):
    """A LOT."""
    reader.take("{")
    if reader.passes("}"):
        return ()
    lot = [take_variable(reader, names, [])]
    while reader.passes(","):
        lot.append(take_variable(reader, names, lot))
    reader.take("}")
    return tuple(sorted(lot))


def take_model(reader):
    """What has the form of a MODEL."""
    graph = take_graph(reader)
    names, _, lots = graph
    sizes = take_sizes(reader, len(names))
    hidden = tuple([take_states(reader, names, lot) for lot in lots])
    rows = tuple([take_rows(reader, name) for name in names])
    return (graph, sizes, hidden, rows)


def take_sizes(reader, count):
    """So many sizes, behind their word."""
    reader.take("sizes")
    sizes = [reader.take_number(LEAST_SIZE, GREATEST_SIZE)]
    while len(sizes) < count:
        reader.take(",")
        sizes.append(reader.take_number(LEAST_SIZE, GREATEST_SIZE))
    reader.take(";")
    return tuple(sizes)


def take_states(reader, names, lot):
    """The chances of the states of this hidden lot, whose turn it is."""
    reader.take("lot")
    bracket = reader.token()
    if take_lot(reader, names) != lot:
        refuse(bracket)
    reader.take(":")
    row = take_row(reader)
    reader.take(";")
    return row


def take_rows(reader, name):
    """The rows of the variable with this name, whose turn it is."""
    reader.take("table")
    reader.take(name)
    reader.take(":")
    rows = [take_row(reader)]
    while reader.passes("|"):
        rows.append(take_row(reader))
    reader.take(";")
    return tuple(rows)


def take_row(reader):
    """A ROW."""
    row = [take_ratio(reader)]
    while reader.passes(","):
        row.append(take_ratio(reader))
    return tuple(row)


def take_ratio(reader):
    """A RATIO."""
    above = reader.take_number()
    if not reader.passes("/"):
        return (above, 1)
    return ratio(above, reader.take_number(1))


def take_formula(reader, names, count, held=0):
    """What has the form of a FORMULA over so many told lots; so many words sum and brackets are open."""
    first = take_product(reader, names, count, held)
    if reader.passes("/"):
        return ("over", first, take_product(reader, names, count, held))
    return first


def take_product(reader, names, count, held):
    """A PRODUCT."""
    factors = [take_single(reader, names, count, held)]
    while reader.passes("*"):
        factors.append(take_single(reader, names, count, held))
    if len(factors) == 1:
        return factors[0]
    return ("times", *factors)


def take_single(reader, names, count, held):
    """A SINGLE."""
    token = reader.token()
    if reader.passes("told"):
        return ("told", reader.take_number(0, count - 1))
    if token[1] not in ("sum", "(") or held == MOST_HELD:
        refuse(token)
    reader.step()
    if token[1] == "sum":
        lot = take_lot(reader, names)
        return ("sum", lot, take_single(reader, names, count, held + 1))
    formula = take_formula(reader, names, count, held + 1)
    reader.take(")")
    return formula
