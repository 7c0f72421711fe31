"""Claims with papers that the checker accepts ([F1])."""

from causaleffects.bounds import between, papers
from causaleffects.identify import derivation, formula, stuck
from causaleffects.models import effect, table
from causaleffects.rounds import rounds
from causaleffects.twomodels import two_models


def certify_identified(graph, told, deeds, asked):
    """That the effect is identified, by a derivation, or that it is not, by what is stuck."""
    found = stuck(graph, told, deeds, asked)
    if found is None:
        return (("identified", graph, told, deeds, asked), derivation(graph, told, deeds, asked))
    return (("not identified", graph, told, deeds, asked), found)


def certify_models(graph, told, deeds, asked):
    """That the effect is not identified, by two models."""
    found = two_models(graph, told, deeds, asked)
    return (("not identified", graph, told, deeds, asked), found)


def certify_hedge(graph, lot, ends):
    """That there is a hedge of ENDS within a lot, the greatest one, or that there is none, by Tian's rounds."""
    found = rounds(graph, lot, ends)
    if found[-1] == ends:
        return (("no hedge", graph, ends, lot), found)
    return (("hedge", graph, ends, found[-1], lot), ())


def certify_formula(graph, told, deeds, asked):
    """That a FORMULA has the effect as its value in every positive model, by a derivation."""
    found = formula(graph, told, deeds, asked)
    return (("formula", graph, told, deeds, asked, found), derivation(graph, told, deeds, asked))


def certify_table(model, lot):
    """That this is the table of a lot in a model."""
    return (("table", model, lot, table(model, lot)), ())


def certify_effect(model, deeds, asked):
    """That this is an effect in a model."""
    return (("effect", model, deeds, asked, effect(model, deeds, asked)), ())


def certify_bounds(graph, sizes, told, tables, question):
    """That these are the least and the greatest chance of what is asked, each by weights and shares."""
    least, greatest = papers(graph, sizes, told, tables, question)
    things = (graph, sizes, told, tables, question)
    return ((("least", *things, least[0]), least[1:]), (("greatest", *things, greatest[0]), greatest[1:]))


def certify_between(graph, sizes, told, tables, question, value):
    """That some model that tells the tables has this chance, by weights."""
    found = between(graph, sizes, told, tables, question, value)
    return (("met", graph, sizes, told, tables, question, value), found)
