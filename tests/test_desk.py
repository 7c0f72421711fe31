"""The desk: point G1 with A5, A6 and A7, and causaleffects.desk."""

import random
import unittest

from causaleffects.bounds import bounds
from causaleffects.desk import Desk
from causaleffects.errors import CausalError, InvalidLine, InvalidText
from causaleffects.identify import formula, least_told, single_lots, stuck
from causaleffects.models import effect, table
from causaleffects.rounds import ancestors, districts, needs
from causaleffects.text import read_formula, read_graph, show_formula, show_graph, show_lot, show_model
from helpers import BOW, DOOR, EIGHT, PAIRS, SEEN, WRONG, Loud, Odd, nested, refusal, some_model
from looks import drawn_questions, lots_of
from responses import drawn_programs

DOOR_LINE = "graph names x, m, y; arrows x -> m -> y; hidden {x, y};"
COIN_LINE = "model names x; sizes 2; table x: 1/3, 4/6;"
BOW_LINE = ("model names x, y; arrows x -> y; hidden {x, y}; sizes 2, 2; lot {x, y}: 1/2, 1/2; "
            "table x: 1/3, 2/3 | 3/4, 1/4; table y: 1/2, 1/2 | 1/4, 3/4 | 1/5, 4/5 | 2/3, 1/3;")
ORDERS = ("graph", "model", "told", "effect", "needs", "least", "single", "parents", "children", "ancestors", "districts",
          "table", "chances", "bounds")


def ratio_texts(row):
    """What a row of RATIOs is shown as."""
    return ", ".join(str(above) if below == 1 else f"{above}/{below}" for above, below in row)


def on_text(graph, deeds, asked):
    """LOT on LOT."""
    return f"{show_lot(graph, deeds)} on {show_lot(graph, asked)}"


class Session(unittest.TestCase):
    def test_of_the_interface(self):
        desk = Desk()
        self.assertIsNone(desk.told())
        self.assertEqual(desk.say("told {x}"), ("no graph",))
        self.assertEqual(desk.say(DOOR_LINE), ("3 variables, 2 arrows, 1 hidden lot",))
        self.assertEqual(desk.told(), (DOOR, SEEN))
        self.assertEqual(desk.say("needs {x} on {y}"), ("{m}", "{y}"))
        self.assertEqual(desk.say("effect {x} on {m}"), (show_formula(DOOR, SEEN, formula(DOOR, SEEN, (0,), (1,))),))
        self.assertEqual(desk.say("told {x}, {x, y}"), ("2 lots",))
        self.assertEqual(desk.told(), (DOOR, ((0,), (0, 2))))
        self.assertEqual(desk.say("effect {x} on {m}"), ("not identified: {m}",))
        self.assertEqual(desk.say("least {x} on {m}"), ("none",))
        self.assertEqual(desk.say("single {x} on {m}"), ("{x, m}", "{x, m, y}", "{m}", "{m, y}"))
        self.assertEqual(desk.say("told {m}, {y, y}"), ("bad text at 1 10",))
        self.assertEqual(desk.say("told {}"), ("not told {}",))
        self.assertEqual(desk.say("table {m}"), ("no model",))
        self.assertEqual(desk.say("parents y"), ("{m}",))
        self.assertEqual(desk.say("effect {x} on {x}"), ("not asked so",))
        self.assertEqual(desk.say("effect"), ("no such line",))
        self.assertEqual(desk.told(), (DOOR, ((0,), (0, 2))))
        self.assertEqual(desk.say(COIN_LINE), ("1 variable",))
        self.assertEqual(desk.told(), ((("x",), (), ()), ((0,),)))
        self.assertEqual(desk.say("table {x}"), ("1/3, 2/3",))
        self.assertEqual(desk.say("chances {} on {x}"), ("1/3, 2/3",))
        self.assertEqual(desk.say("bounds {} on {x}: 0"), ("no bounds",))

    def test_what_is_seen_of_the_bow(self):
        desk = Desk()
        self.assertEqual(desk.say(line=BOW_LINE), ("2 variables",))
        self.assertEqual(desk.told(), (BOW, ((0, 1),)))
        self.assertEqual(desk.say("effect {x} on {y}"), ("not identified: {y}", "{x, y}"))
        self.assertEqual(desk.say("told {y}, {x}, {x, y}"), ("3 lots",))
        self.assertEqual(desk.say("least {x} on {y}"), ("0",))
        self.assertEqual(desk.say("least {} on {x}"), ("1", "2"))
        self.assertEqual(desk.say("least {} on {x, y}"), ("2",))
        self.assertEqual(desk.say("effect {x} on {y}"), ("told 0",))
        self.assertEqual(desk.say("told {x, y}"), ("1 lot",))
        found = desk.say("bounds {x} on {y}: 1, 1")[0].split(" to ")
        rows = dict(zip(((0, 0), (0, 1), (1, 0), (1, 1)), desk.say("table {x, y}")[0].split(", ")))
        self.assertEqual(found[0], rows[1, 1])
        self.assertEqual(desk.say("told {y}"), ("1 lot",))
        one = desk.say("chances {x} on {y}")[0].split(", ")[3]
        self.assertEqual(desk.say("bounds {x} on {y}: 1, 1"), (f"{one} to {one}",))

    def test_least_lots_of_several(self):
        desk = Desk()
        desk.say(DOOR_LINE)
        self.assertEqual(desk.say("told {x}, {m}, {y}, {x, m, y}"), ("4 lots",))
        self.assertEqual(desk.say("least {x} on {y}"), ("1, 2", "3"))

    def test_shown_numbers_of_things(self):
        desk = Desk()
        for text, answer in (
                ("names x;", "1 variable, 0 arrows, 0 hidden lots"), ("names x, y; arrows x -> y;", "2 variables, 1 arrow, 0 hidden lots"),
                ("names x, y, z; hidden {x, y}, {y, z};", "3 variables, 0 arrows, 2 hidden lots"),
                (show_graph((EIGHT, PAIRS, PAIRS)), "8 variables, 28 arrows, 28 hidden lots")):
            self.assertEqual(desk.say("graph " + text), (answer,))
            self.assertEqual(desk.told(), (read_graph(text), (tuple(range(len(read_graph(text)[0]))),)))


class Answers(unittest.TestCase):
    """Each order against the functions that it names."""

    def test_drawn_graphs(self):
        counts = [0, 0]
        for graph, told, deeds, asked in drawn_questions(111, 120, 5):
            desk = Desk()
            names, arrows, lots = graph
            desk.say("graph " + show_graph(graph))
            desk.say("told " + ", ".join(show_lot(graph, lot) for lot in told))
            self.assertEqual(desk.told(), (graph, told))
            pair_text = on_text(graph, deeds, asked)
            found = stuck(graph, told, deeds, asked)
            if found is None:
                text = desk.say("effect " + pair_text)[0]
                self.assertEqual(read_formula(graph, told, text), formula(graph, told, deeds, asked))
                self.assertEqual(desk.say("effect " + pair_text), (show_formula(graph, told, formula(graph, told, deeds, asked)),))
            else:
                self.assertEqual(desk.say("effect " + pair_text), (
                    "not identified: " + show_lot(graph, found[0]),) + tuple(show_lot(graph, lot) for lot in found[1]))
            counts[found is None] += 1
            least = tuple(", ".join(map(str, lot)) for lot in least_told(graph, told, deeds, asked))
            self.assertEqual(desk.say("least " + pair_text), least or ("none",))
            for order, told_lots in (("needs", needs(graph, deeds, asked)), ("single", single_lots(graph, deeds, asked))):
                self.assertEqual(desk.say(f"{order} {pair_text}"), tuple(show_lot(graph, lot) for lot in told_lots))
            for lot in lots_of(len(names)):
                text = show_lot(graph, lot)
                shown = tuple(show_lot(graph, one) for one in districts(graph, lot))
                self.assertEqual(desk.say("districts " + text), shown or ("none",))
                whole = tuple(range(len(names)))
                self.assertEqual(desk.say("ancestors " + text), (show_lot(graph, ancestors(graph, whole, lot)),))
            for at, name in enumerate(names):
                parents = tuple(start for start, end in arrows if end == at)
                children = tuple(end for start, end in arrows if start == at)
                self.assertEqual(desk.say("parents " + name), (show_lot(graph, parents),))
                self.assertEqual(desk.say("children " + name), (show_lot(graph, children),))
            self.assertEqual(desk.told(), (graph, told))
        self.assertGreater(min(counts), 15)

    def test_drawn_models(self):
        refused = 0
        for at, (model, graph, sizes, told, _, question) in enumerate(drawn_programs(112, 60, most_types=64)):
            if at % 4 == 0:
                model = some_model(graph, sizes, (2,), at, zeros=True)
            desk = Desk()
            self.assertEqual(desk.say("model " + show_model(model)), (f"{len(sizes)} variables",))
            desk.say("told " + ", ".join(show_lot(graph, lot) for lot in told))
            deeds, asked, setting = question
            text = on_text(graph, deeds, asked)
            for lot in told + ((),):
                self.assertEqual(desk.say("table " + show_lot(graph, lot)), (ratio_texts(table(model, lot)),))
            self.assertEqual(desk.say("chances " + text), (ratio_texts(effect(model, deeds, asked)),))
            line = f"bounds {text}: " + ", ".join(map(str, setting))
            try:
                ends = bounds(graph, sizes, told, tuple(table(model, lot) for lot in told), question)
                answer = " to ".join(ratio_texts((one,)) for one in ends)
            except CausalError:
                answer = "no bounds"
                refused += 1
            self.assertEqual(desk.say(line), (answer,))
            self.assertEqual(desk.say(line.replace(": ", ":").replace(", ", " ,# ?\n ")), (answer,))
            self.assertEqual(desk.told(), (graph, told))
        self.assertGreater(refused, 1)

    def test_no_bounds(self):
        desk = Desk()
        zero = BOW_LINE.replace("1/3, 2/3 | 3/4, 1/4", "1, 0 | 1, 0")
        self.assertEqual(desk.say(zero), ("2 variables",))
        self.assertEqual(desk.say("bounds {x} on {y}: 0, 0"), ("no bounds",))
        # Its table of y has no chance 0.
        self.assertEqual(desk.say("told {y}"), ("1 lot",))
        self.assertEqual(len(desk.say("bounds {x} on {y}: 0, 0")[0].split(" to ")), 2)
        for model, told, line in (
                (some_model((EIGHT[:3], (), ((0, 1), (1, 2))), (2, 2, 2), (1, 1), 3), "{a, b, c}", "bounds {a} on {b}: 0, 0"),
                (some_model((EIGHT[:3], (), ((0, 1),)), (2, 2, 2), (1,), 3), "{a, b}", "bounds {a} on {b}: 0, 0"),
                (some_model(BOW, (4, 4), (1,), 3), "{x, y}", "bounds {x} on {y}: 3, 3")):
            self.assertEqual(desk.say("model " + show_model(model)), (f"{len(model[1])} variables",))
            self.assertEqual(desk.say("told " + told), ("1 lot",))
            self.assertEqual(desk.say(line), ("no bounds",))
        # What cannot be asked so is told ahead of no bounds.
        self.assertEqual(desk.say("bounds {x} on {x}: 3, 3"), ("not asked so",))
        self.assertEqual(desk.say("bounds {x} on {}: 3"), ("not asked so",))
        self.assertEqual(desk.say("bounds {} on {}:"), ("not asked so",))
        self.assertEqual(desk.say("bounds {} on {}: 0"), ("bad text at 1 11",))


class Refused(unittest.TestCase):
    def test_no_such_line(self):
        for lines in (("",), (DOOR_LINE,), (BOW_LINE,)):
            desk = Desk()
            for line in lines:
                desk.say(line)
            before = desk.told()
            for line in ("", " ", "?", "effects {x} on {y}", " effect {x} on {y}", "Effect {x} on {y}", "effect\n{x} on {y}",
                         "effect\t{x} on {y}", "effect{x} on {y}", "#", "graph\n names x;", "say {x}", "none", "x", "bounds\n",
                         "tell {x}", "told,{x}", "sum {x}", "names x;", "effect# {x} on {y}", "\u00a0", "parents\u00a0x") + ORDERS:
                self.assertEqual(desk.say(line), ("no such line",), line)
                self.assertEqual(desk.told(), before)

    def test_an_order_without_a_rest_has_an_empty_one(self):
        desk = Desk()
        self.assertEqual(desk.say("graph "), ("bad text at 1 1",))
        self.assertEqual(desk.say("model  "), ("bad text at 1 2",))
        self.assertEqual(desk.say("told "), ("no graph",))
        desk.say(BOW_LINE)
        for order in ORDERS:
            self.assertEqual(desk.say(order + " "), ("bad text at 1 1",))
            self.assertEqual(desk.say(order + "  \n "), ("bad text at 2 2",))
            self.assertEqual(desk.say(order + " # names x;\n"), ("bad text at 2 1",))
        self.assertEqual(desk.told(), (BOW, ((0, 1),)))

    def test_no_graph_and_no_model_come_ahead(self):
        desk = Desk()
        for order in ORDERS:
            if order not in ("graph", "model"):
                for rest in ("", "?", "{x}", "{x} on {y}", "x"):
                    self.assertEqual(desk.say(f"{order} {rest}"), ("no graph",))
        desk.say(DOOR_LINE)
        for order in ("table", "chances", "bounds"):
            for rest in ("", "?", "{x}", "{x} on {y}", "{x} on {y}: 0, 0", "{x} on {x}", "{q}"):
                self.assertEqual(desk.say(f"{order} {rest}"), ("no model",))
        desk.say(BOW_LINE)
        self.assertNotEqual(desk.say("table {x}"), ("no model",))
        desk.say(DOOR_LINE)
        self.assertEqual(desk.say("table {x}"), ("no model",))

    def test_not_asked_so_comes_behind_all_that_is_read(self):
        desk = Desk()
        desk.say(BOW_LINE)
        for order in ("effect", "needs", "least", "single", "chances"):
            for rest in ("{x} on {x}", "{x} on {}", "{} on {}", "{x, y} on {y}", "{y} on {x, y}"):
                self.assertEqual(desk.say(f"{order} {rest}"), ("not asked so",))
                self.assertEqual(desk.say(f"{order} {rest} ?"), (f"bad text at 1 {len(rest) + 2}",))
        self.assertEqual(desk.say("bounds {x} on {x}: 0"), ("bad text at 1 14",))
        self.assertEqual(desk.say("bounds {x} on {x}: 0, 2"), ("bad text at 1 16",))
        self.assertEqual(desk.say("bounds {x} on {x}: 0, 1"), ("not asked so",))

    def test_told(self):
        desk = Desk()
        desk.say("graph names a, b, c;")
        before = desk.told()
        six = "{a}, {b}, {c}, {a, b}, {a, c}, {b, c}"
        for rest, answer in (
                (six + ", {a, b, c}", "too many lots"), (six + ", {}", "too many lots"), (six + ", {a}", "too many lots"),
                (six + ", {a}, {d}", "bad text at 1 46"), ("{a}, {}", "not told {}"), ("{a}, {b}, {a}, {b}", "not told {a}"),
                ("{b, a}, {c}, {a, b}, {}", "not told {a, b}"), ("{a}, {c, b}, {}, {b, c}", "not told {}"), ("{a} {b}", "bad text at 1 5"),
                ("{a},", "bad text at 1 5"), ("{a}, {a, a}", "bad text at 1 10"), ("", "bad text at 1 1"), ("a", "bad text at 1 1"),
                ("{a}, {b};", "bad text at 1 9"), ("{names}", "bad text at 1 2"), ("{a}\n, {on}", "bad text at 2 4")):
            self.assertEqual(desk.say("told " + rest), (answer,), rest)
            self.assertEqual(desk.told(), before)
        self.assertEqual(desk.say("told " + six), ("6 lots",))
        self.assertEqual(desk.told()[1], ((0,), (1,), (2,), (0, 1), (0, 2), (1, 2)))
        self.assertEqual(desk.say("told {c,b}"), ("1 lot",))
        self.assertEqual(desk.told()[1], ((1, 2),))

    def test_models_that_are_none(self):
        desk = Desk()
        desk.say(BOW_LINE)
        desk.say("told {x}")
        before = desk.told()
        rows = desk.say("table {x, y}")
        for line, answer in (
                (COIN_LINE.replace("4/6", "4/5"), "no model"), (COIN_LINE.replace("4/6", "-4/6"), "no model"),
                (COIN_LINE.replace("4/6", "4/6 | 1, 0"), "no model"), (COIN_LINE.replace("1/3, 4/6", "1"), "no model"),
                ("model names x, y; hidden {x, y}; sizes 2, 2; lot {x, y}: 1/2, 1/4; table x: 1, 0 | 1, 0; table y: 1, 0 | 1, 0;",
                 "no model"),
                (COIN_LINE.replace("sizes 2", "sizes 5"), "bad text at 1 16"), (COIN_LINE[:-1], "bad text at 1 36"),
                (COIN_LINE + " 1", "bad text at 1 38"), (COIN_LINE.replace("4/6", "4/0"), "bad text at 1 35"),
                (COIN_LINE.replace("4/5", "4/6").replace("x:", "y:"), "bad text at 1 25"),
                ("model names x, y;", "bad text at 1 12"), (DOOR_LINE.replace("graph", "model"), "bad text at 1 50"),
                (DOOR_LINE.replace("m, y", "m, x"), "bad text at 1 13"), (DOOR_LINE + " sizes 2, 2, 2;", "bad text at 1 51"),
                ("graph names x, y; arrows y -> x;", "bad text at 1 25")):
            self.assertEqual(desk.say(line), (answer,), line)
            self.assertEqual(desk.told(), before)
            self.assertEqual(desk.say("table {x, y}"), rows)

    def test_a_token_or_sign_less_or_more(self):
        # Each line without one of its signs, with it twice, and with another one put in: as the readers tell it.
        desk = Desk()
        desk.say(BOW_LINE)
        names = BOW[0]
        source = random.Random(113)
        for line in ("told {x}, {x, y}", "effect {x} on {y}", "needs {x} on {y}", "least {} on {x, y}", "single {x} on {y}",
                     "parents y", "children x", "ancestors {y}", "districts {x, y}", "table {y}", "chances {x} on {y}",
                     "bounds {x} on {y}: 1, 1"):
            order, _, rest = line.partition(" ")
            good = desk.say(line)
            self.assertFalse(good[0].startswith("bad text"), line)
            desk.say("told {x, y}")
            for at in range(len(rest) + 1):
                put_in = [rest[:at] + sign + rest[at:] for sign in source.sample("?;:,|/*(){}-x0# ", 5)]
                for other in [rest[:at] + rest[at + 1:], rest[:at] + rest[at:at + 1] + rest[at:]] + put_in:
                    before = desk.told()
                    found = desk.say(f"{order} {other}")
                    expected = read_by_hand(order, other, names)
                    if expected is not None:
                        self.assertEqual(found, (f"bad text at {expected[0]} {expected[1]}",), other)
                        self.assertEqual(desk.told(), before)
                    else:
                        self.assertFalse(found[0].startswith("bad text"), other)
                    if order == "told":
                        desk.say("told {x, y}")

    def test_what_stands_behind(self):
        desk = Desk()
        desk.say(BOW_LINE)
        for line in ("told {x}", "effect {x} on {y}", "needs {x} on {y}", "least {} on {x}", "single {x} on {y}", "parents y",
                     "children x", "ancestors {y}", "districts {x}", "table {y}", "chances {x} on {y}", "bounds {x} on {y}: 1, 1"):
            rest = line.partition(" ")[2]
            for more in ("x", "{x}", "on", "0", ";", ":", "?", "on {x}", ", "):
                if line.startswith("told") and more == ", ":
                    self.assertEqual(desk.say(line + more), (f"bad text at 1 {len(rest) + 3}",))
                elif more == ", ":
                    self.assertEqual(desk.say(line + " , "), (f"bad text at 1 {len(rest) + 2}",))
                else:
                    self.assertEqual(desk.say(f"{line} {more}"), (f"bad text at 1 {len(rest) + 2}",))
            self.assertFalse(desk.say(line + " # all \n ")[0].startswith("bad text"))

    def test_what_is_no_text(self):
        desk = Desk()
        desk.say(BOW_LINE)
        before = desk.told()
        for line in WRONG + (b"parents y", ["parents y"], ("parents y",), Odd(), Loud(), nested(300), 0, None):
            if type(line) is not str:
                for one in (desk, Desk()):
                    self.assertIs(refusal(InvalidLine, one.say, line).given, line)
                    self.assertIs(refusal(InvalidLine, one.say, line=line).given, line)
        self.assertEqual(desk.told(), before)

    def test_no_line_raises_an_error(self):
        source = random.Random(114)
        parts = ["{", "}", "{x}", "{y}", "{x, y}", "{}", " on ", ":", ",", " ", "\n", "#", "0", "1", "2", "-1", "x", "y", "names", ";",
                 "told", "->", "?", "\u00e9", "x1234567", "x12345678", "00", "|", "sizes", "table", "1/2"]
        desk = Desk()
        desk.say(BOW_LINE)
        for _ in range(4000):
            line = source.choice(ORDERS) + " " + "".join(source.choice(parts) for _ in range(source.randint(0, 7)))
            found = desk.say(line)
            self.assertIs(type(found), tuple)
            self.assertTrue(found and all(type(one) is str and one for one in found))
            if desk.told()[0] != BOW:
                desk.say(BOW_LINE)


def read_by_hand(order, rest, names):
    """Where a rest of an order but graph and model is refused, None if it is not: by tokens taken one by one."""
    tokens = cut_by_hand(rest)
    end = tokens[-1]
    at = 0

    def lot():
        nonlocal at
        if tokens[at][0] != "{":
            return tokens[at]
        at += 1
        found = []
        if tokens[at][0] == "}":
            at += 1
            return found
        while True:
            if tokens[at][0] not in names or tokens[at][0] in found:
                return tokens[at]
            found.append(tokens[at][0])
            at += 1
            if tokens[at][0] == "}":
                at += 1
                return found
            if tokens[at][0] != ",":
                return tokens[at]
            at += 1

    def place(token):
        return token[1:]

    if order in ("parents", "children"):
        if tokens[0][0] not in names:
            return place(tokens[0])
        return None if tokens[1] is end and end[0] == "" else place(tokens[1])
    count = 0
    while True:
        one = lot()
        if type(one) is tuple:
            return place(one)
        count += len(one)
        if order == "told" and tokens[at][0] == ",":
            at += 1
        elif order in ("told", "ancestors", "districts", "table") or at and tokens[at - 1][0] == "}" and seconds(tokens, at):
            break
        elif tokens[at][0] == "on":
            at += 1
        else:
            return place(tokens[at])
    if order == "bounds":
        wanted = [":"]
        for number in range(count):
            wanted += ([","] if number else []) + ["number"]
        for one in wanted:
            if tokens[at][0] != one and not (one == "number" and tokens[at][0] in ("0", "1")):
                return place(tokens[at])
            at += 1
    return None if tokens[at] is end and end[0] == "" else place(tokens[at])


def seconds(tokens, at):
    """Whether the word on stands ahead of the lot that ends here."""
    return any(token[0] == "on" for token in tokens[:at])


def cut_by_hand(text):
    """Tokens (SIGNS, LINE, COLUMN) of a text; "?" for a bad sign, "" for the end."""
    found = []
    line, column, at = 1, 1, 0
    letters, figures = "abcdefghijklmnopqrstuvwxyz", "0123456789"
    while at < len(text):
        sign = text[at]
        if sign == "#":
            while at < len(text) and text[at] != "\n":
                at += 1
                column += 1
            continue
        if sign == "\n":
            line, column, at = line + 1, 1, at + 1
            continue
        if sign == " ":
            column, at = column + 1, at + 1
            continue
        end = at + 1
        if sign in letters:
            while end < len(text) and text[end] in letters + figures:
                end += 1
            if end - at > 8:
                return found + [("?", line, column + 8)]
        elif sign in figures or (sign == "-" and end < len(text) and text[end] in figures):
            first = end if sign == "-" else at
            end = first
            while end < len(text) and text[end] in figures:
                end += 1
            if text[first] == "0" and (sign == "-" or end > first + 1):
                return found + [("?", line, column + first - at + (sign != "-"))]
        elif text[at:at + 2] == "->":
            end = at + 2
        elif sign not in ",;:|/*(){}":
            return found + [("?", line, column)]
        found.append((text[at:end], line, column))
        column, at = column + end - at, end
    return found + [("", line, column)]


class SideBySide(unittest.TestCase):
    def test_two_desks(self):
        one, two = Desk(), Desk()
        one.say(DOOR_LINE)
        self.assertIsNone(two.told())
        self.assertEqual(two.say("parents y"), ("no graph",))
        two.say(BOW_LINE)
        self.assertEqual(one.told(), (DOOR, SEEN))
        self.assertEqual(one.say("table {x}"), ("no model",))
        two.say("told {y}, {x}")
        one.say("told {m}")
        self.assertEqual(two.told(), (BOW, ((1,), (0,))))
        self.assertEqual(one.told(), (DOOR, ((1,),)))
        self.assertEqual([one.say("parents y"), two.say("parents y")], [("{m}",), ("{x}",)])
        one.say(COIN_LINE)
        self.assertEqual(two.told(), (BOW, ((1,), (0,))))
        self.assertEqual(Desk().told(), None)

    def test_told_again_it_answers_the_same(self):
        desk, other = Desk(), Desk()
        lines = (DOOR_LINE, "told {m}, {x, y}", "effect {x} on {y}", "least {x} on {y}", BOW_LINE, "bounds {x} on {y}: 0, 1",
                 "chances {x} on {y}", COIN_LINE, "table {x}", "table {y}", "told {}", "graph names x")
        first = [desk.say(line) for line in lines]
        self.assertEqual([desk.say(line) for line in lines], first)
        self.assertEqual([other.say(line) for line in lines], first)

    def test_told_behind_a_graph_and_a_model(self):
        desk = Desk()
        desk.say(BOW_LINE)
        desk.say("told {y}")
        desk.say(BOW_LINE)
        self.assertEqual(desk.told(), (BOW, ((0, 1),)))
        desk.say("told {y}")
        desk.say(DOOR_LINE)
        self.assertEqual(desk.told(), (DOOR, SEEN))


class Readers(unittest.TestCase):
    def test_the_rest_is_refused_where_the_readers_refuse_it(self):
        for text in ("names x, y; arrows y -> x;", "names x; names y;", "names", "", "names x1234567a;", "names x, x;", "names x; # ?",
                     "names x, y; hidden {x};", "names x,\n y; hidden {x, y}, {y,\n x};"):
            desk = Desk()
            try:
                graph = read_graph(text)
                self.assertEqual(desk.say("graph " + text)[0].split(" ")[0], str(len(graph[0])))
            except InvalidText as refused:
                self.assertEqual(desk.say("graph " + text), (f"bad text at {refused.line} {refused.column}",))
                self.assertIsNone(desk.told())


if __name__ == "__main__":
    unittest.main()
