"""Reading graphs, lots, models and formulas: point A6 and the interface of causaleffects.text."""

import unittest
from itertools import combinations, permutations

from causaleffects.errors import InvalidFormula, InvalidModel, InvalidText
from causaleffects.text import read_formula, read_graph, read_lot, read_model
from helpers import BOW, DOOR, EIGHT, FLIPS, LONE, PAIRS, SEEN, refusal

LEAF = ("told", 0)
WORDS = ("names", "arrows", "hidden", "sizes", "lot", "table", "told", "sum", "on")
BOW_TEXT = """names x, y; arrows x -> y; hidden {x, y}; sizes 2, 3;
lot {x, y}: 1/4, 3/4;
table x: 1/2, 1/2 | 1/3, 2/3;
table y: 1, 0, 0 | 0, 1, 0 | 0, 0, 1 | 1/3, 1/3, 1/3;
"""
BOW_MODEL = (BOW, (2, 3), (((1, 4), (3, 4)),), (
    (((1, 2), (1, 2)), ((1, 3), (2, 3))),
    (((1, 1), (0, 1), (0, 1)), ((0, 1), (1, 1), (0, 1)), ((0, 1), (0, 1), (1, 1)), ((1, 3), (1, 3), (1, 3)))))


class Case(unittest.TestCase):
    def refused(self, call, text, mark="@"):
        """The text without its mark is refused just where the mark stands."""
        ahead, behind = text.split(mark)
        lines = ahead.split("\n")
        found = refusal(InvalidText, call, ahead + behind)
        self.assertEqual((found.line, found.column), (len(lines), len(lines[-1]) + 1), text)


class Graphs(Case):
    def test_graphs(self):
        self.assertEqual(read_graph("names x;"), LONE)
        self.assertEqual(read_graph("names x, y; arrows x -> y;"), (("x", "y"), ((0, 1),), ()))
        self.assertEqual(read_graph("names x, y; hidden {x, y};"), (("x", "y"), (), ((0, 1),)))
        self.assertEqual(read_graph("names x, y; arrows x -> y; hidden {x, y};"), BOW)
        self.assertEqual(read_graph("names names1, lot0, sum1;")[0], ("names1", "lot0", "sum1"))
        self.assertEqual(read_graph(text="names y, x;"), (("y", "x"), (), ()))

    def test_chains(self):
        told = ((0, 1), (0, 2), (1, 2))
        for text in ("a -> b -> c, a -> c", "a -> c, a -> b -> c", "b -> c, a -> c, a -> b", "a -> b, a -> c, b -> c"):
            self.assertEqual(read_graph(f"names a, b, c; arrows {text};")[1], told)
        chain = " -> ".join(EIGHT)
        self.assertEqual(read_graph(f"names {', '.join(EIGHT)}; arrows {chain};")[1], tuple(zip(range(7), range(1, 8))))
        for row in list(permutations(PAIRS[:4])) + [PAIRS, PAIRS[::-1]]:
            text = ", ".join(f"{EIGHT[start]} -> {EIGHT[end]}" for start, end in row)
            self.assertEqual(read_graph(f"names {', '.join(EIGHT)}; arrows {text};")[1], tuple(sorted(row)))

    def test_hidden_lots(self):
        for first in permutations("abc"):
            for second in permutations("bc"):
                text = "{" + ", ".join(first) + "}, {" + ",".join(second) + "}"
                self.assertEqual(read_graph(f"names a, b, c; hidden {text};")[2], ((0, 1, 2), (1, 2)))
                text = "{" + ", ".join(second) + "}, {" + ",".join(first) + "}"
                self.assertEqual(read_graph(f"names a, b, c; hidden {text};")[2], ((0, 1, 2), (1, 2)))

    def test_names_that_cannot_stand_there(self):
        for word in WORDS:
            self.refused(read_graph, f"names @{word};")
            self.refused(read_graph, f"names x, @{word};")
        for text in ("names @;", "names @,", "names @1;", "names @-1;", "names @{x};", "names x, @;",
                     "names x, @x;", "names x, y, @x;", "names x, y, z, @y;", "names x, @,", "names x, @1;"):
            self.refused(read_graph, text)

    def test_the_ninth_name(self):
        self.assertEqual(read_graph(f"names {','.join(EIGHT)};")[0], EIGHT)
        for ninth in ("i;", "i, j;", "a;", ";", "i"):
            self.refused(read_graph, f"names {', '.join(EIGHT)}, @{ninth}")

    def test_names_in_chains(self):
        for text in ("@y -> z;", "@;", "@lot -> a;", "@-> b;", "a -> @a;", "b -> @a;", "c -> @a;", "c -> @b;", "c -> @c;",
                     "a -> b -> @a;", "a -> b -> @b;", "a -> b, @;", "a -> b, a -> @b;", "a -> b, a -> @b -> c;",
                     "a -> b -> c, b -> @c;", "b -> c, a -> b -> @c;", "a -> c, a -> b, a -> @c;", "a -> @q;", "a -> @;",
                     "a -> b -> c -> @a;", "a -> b -> c -> @;", "a -> b, c -> @a;", "a -> @{b};", "a -> @1;"):
            self.refused(read_graph, f"names a, b, c; arrows {text}")

    def test_signs_of_chains(self):
        for text in ("a@;", "a@, b -> c;", "a @b;", "a -> b@}", "a -> b @c;", "a -> b@|", "a@|b;", "@{a};",
                     "a -> b; @a", "a -> b; @arrows b -> c;", "a -> b;@;", "a -> b; @sizes 2;", "a@:"):
            self.refused(read_graph, f"names a, b, c; arrows {text}")

    def test_names_in_lots(self):
        for text in ("{@q}", "{a, @a}", "{a, b, @a}", "{a, b, c, @a}", "{a, @}", "{@,", "{@{", "{@1}", "{a, @lot}", "{a@;",
                     "{a @b}", "{a @", "@a", "@;", "@}", "@(", "{a, b}, @;", "{a, b}, @c", "{a, b}@|", "{a, b} @{a, c}",
                     "{a, b}; @{", "{a, b}; @hidden {a, c};", "{a, b}; @arrows a -> b;", "{a, b}@}"):
            self.refused(read_graph, f"names a, b, c; hidden {text}")

    def test_hidden_lots_refused_at_their_first_bracket(self):
        for text in ("@{};", "@{a};", "@{ # one\n a };", "{a, b}, @{a, b};", "{a, b}, @{b, a};", "{a, b}, @{}",
                     "{a, b}, @{c}", "{c, b, a}, {a, b}, @{b, c, a};", "@{}?", "@{a}}", "{a, b},\n@{b,\na}"):
            self.refused(read_graph, f"names a, b, c; hidden {text}")

    def test_what_is_wrong_within_a_lot_comes_first(self):
        for text in ("{@?}", "{a@?}", "{a, @q}", "{a@", "{a,@", "{a, b}, {a, b@?", "{a, b}, {b, a@", "{a, b}, {b, a@;",
                     "{a, b}, {a@;"):
            self.refused(read_graph, f"names a, b, c; hidden {text}")

    def test_the_29th_hidden_lot(self):
        names = ", ".join(EIGHT)
        lots = ["{" + EIGHT[a] + "," + EIGHT[b] + "}" for a, b in PAIRS]
        self.assertEqual(read_graph(f"names {names}; hidden {', '.join(lots)};")[2], PAIRS)
        ahead = f"names {names}; hidden {', '.join(lots)}"
        self.refused(read_graph, ahead + ", @{a, b, c};")
        self.refused(read_graph, ahead + ", @{a, b, c}, {a};")
        self.refused(read_graph, ahead + ", @{a, b};")
        self.refused(read_graph, ahead + ", {a, b, @a};")
        self.refused(read_graph, ahead + ", {a, b, c@;")
        self.refused(read_graph, ahead + ", @;")
        sets = [lot for size in (2, 3, 4) for lot in combinations(range(6), size)][:29]
        some = ["{" + ", ".join(EIGHT[one] for one in lot) + "}" for lot in sets]
        self.assertEqual(len(read_graph(f"names {names}; hidden {', '.join(some[:28])};")[2]), 28)
        self.refused(read_graph, f"names {names}; hidden {', '.join(some[:28])}, @{some[28]};")

    def test_parts_out_of_order(self):
        for text in ("@arrows a -> b;", "@hidden {a, b};", "@sizes 2;", "@;", "@x", "names a@:", "names a @b;", "names a@.",
                     "names a; @names b;", "names a; @b", "names a, b; hidden {a, b}; @arrows a -> b;", "names a;@,",
                     "names a, b; arrows a -> b; hidden {a, b}; @hidden {a, b};", "names a; @sizes 2; table a: 1, 0;",
                     "names a;@;", "names a; @lot"):
            self.refused(read_graph, text)

    def test_every_beginning_is_refused_at_its_end(self):
        tokens = "names x , m , y ; arrows x -> m -> y ; hidden { y , x } ;".split()
        for count in range(len(tokens)):
            text = " ".join(tokens[:count])
            whole = text.endswith(";")
            if whole:
                self.assertEqual(read_graph(text)[0], ("x", "m", "y"))
            else:
                for more in ("", " ", "\n", "\n  ", "  # rest", "\n# rest\n"):
                    self.refused(read_graph, text + more + "@")

    def test_what_stands_ahead_of_the_refused_token_can_go_on(self):
        tokens = "names x , m , y ; arrows x -> m -> y ; hidden { y , x } , { x , m , y } ;".split()
        puts = ("", "lot", "{", "}", "->", ";", ",", "0", "x", "m", "|", "hidden")
        refused = 0
        for at in range(len(tokens)):
            for put in puts:
                for until in (at, at + 1):
                    text = " ".join(tokens[:at] + [put] + tokens[until:])
                    try:
                        read_graph(text)
                    except InvalidText as wrong:
                        refused += 1
                        ahead = text[:wrong.column - 1]
                        if not ahead.rstrip().endswith(";") or not self.fine(ahead):
                            self.refused(read_graph, ahead + "@")
        self.assertGreater(refused, 600)

    def fine(self, text):
        try:
            return bool(read_graph(text))
        except InvalidText:
            return False


class Lots(Case):
    def test_lots(self):
        for size in range(4):
            for lot in combinations(range(3), size):
                for row in permutations(lot):
                    text = "{" + ", ".join(DOOR[0][one] for one in row) + "}"
                    self.assertEqual(read_lot(DOOR, text), lot)
        self.assertEqual(read_lot(DOOR, " { # none\n } "), ())
        self.assertEqual(read_lot(graph=DOOR, text="{m}"), (1,))

    def test_refused_ones(self):
        for text in ("@", "@x", "@}", "{@", "{@,x}", "{x@", "{x,@", "{x,@}", "{x, @x}", "{x, m, y, @x}", "{@q}", "{@names}",
                     "{@{x}}", "{}@{}", "{x}@,", "{x} @{m}", "{x} @m", "{x}@;", "{x @m}", "{@0}", "{x}@?", "{x@:", "@(x)",
                     "{x, @\u00e9}"):
            self.refused(lambda text: read_lot(DOOR, text), text)


class Models(Case):
    def test_models(self):
        self.assertEqual(read_model(BOW_TEXT), BOW_MODEL)
        self.assertEqual(read_model(text=BOW_TEXT.replace("{x, y}: 1/4, 3/4", "{y, x}:2/8,  300/400")), BOW_MODEL)
        self.assertEqual(read_model("names x; sizes 2; table x: 1/3, 4/6;"), (LONE, (2,), (), ((((1, 3), (2, 3)),),)))
        self.assertEqual(read_model("names x; sizes 2; table x: 0/7, 7/7;"), (LONE, (2,), (), ((((0, 1), (1, 1)),),)))
        self.assertEqual(read_model("names x, y; arrows x -> y; sizes 2, 2; table x: 1/3, 2/3; table y: 1/2, 2/4"
                                    "| 1/4, 3/4;"), FLIPS)

    def test_lots_in_ascending_order(self):
        text = ("names a, b, c; hidden {b, c}, {a, c}, {a, b, c}; sizes 2, 2, 2; lot {c, b, a}: 1; lot {c, a}: 1/2, 1/2;"
                "lot {b, c}: 1/3, 1/3, 1/3; table a: 1, 0 | 0, 1; table b: 1, 0 | 1, 0 | 0, 1; table c: "
                + " | ".join(["1/2, 1/2"] * 6) + ";")
        told = read_model(text)
        self.assertEqual(told[0][2], ((0, 1, 2), (0, 2), (1, 2)))
        self.assertEqual([len(row) for row in told[2]], [1, 2, 3])
        self.assertEqual([len(rows) for rows in told[3]], [2, 3, 6])
        self.refused(read_model, text.replace("lot {c, b, a}", "lot @{a, c}"))
        self.refused(read_model, text.replace("lot {c, a}", "lot @{b, c}"))
        self.refused(read_model, text.replace("lot {c, a}", "lot @{c, b, a}"))

    def test_numbers_of_sizes(self):
        ahead = "names x, y, z; sizes "
        for text in ("2, 2@;", "2@;", "@;", "2, 2, 2@, 2;", "2, 2, 2 @2;", "2 @2", "2, @;", "@1, 2, 2;", "2, @5, 2;",
                     "2, 2, @0;", "2, @-2", "@10", "2, 4, @1", "@x", "2@/1", "2@:", "2, 3, 4@", "2, 3, 4@:",
                     "2, 3, 4; @sizes", "2, 3, 4; @lot {x, y}", "2, 3, 4; @", "2, 3, 4; @x"):
            self.refused(read_model, ahead + text)
        self.refused(read_model, "names x; sizes @5; table x: 1, 0;")
        self.refused(read_model, "names x; @table x: 1, 0;")
        self.refused(read_model, "names x; @lot")

    def test_rows_of_lots(self):
        ahead = "names x, y, z; hidden {x, y}, {y, z}; sizes 2, 2, 2; "
        for text in ("@table x", "@", "lot @x", "lot @{x, z}: 1;", "lot @{y, z}: 1;", "lot @{}: 1;", "lot @{x}:", "lot {@q}",
                     "lot {x, @x}", "lot {x@", "lot {x, z@?", "lot {x, y@:", "lot {x, y}@;", "lot {x, y} @1",
                     "lot {x, y}: @;", "lot {x, y}: @x", "lot {x, y}: 1@:", "lot {x, y}: 1@|", "lot {x, y}: 1,@;",
                     "lot {x, y}: 1; @table", "lot {x, y}: 1; lot @{x, y}: 1;", "lot {x, y}: 1; lot {y, z}: 1; @lot {x, y}",
                     "lot {x, y}: 1; lot {z, y}: 1; @", "lot @{x,\ny,\nz}: 1;"):
            self.refused(read_model, ahead + text)

    def test_rows_of_tables(self):
        ahead = "names x, y; sizes 2, 2; "
        for text in ("@", "@lot", "table @", "table @y", "table @z", "table @{x}", "table x@;", "table x @1", "table x: @;",
                     "table x: @|", "table x: 1@:", "table x: 1, @;", "table x: 1 | @;", "table x: 1 @2", "table x: 1; @",
                     "table x: 1; table @x", "table x: 1; table @1", "table x: 1; table y: 1; @table", "table x: 1; @x",
                     "table x: 1; table y: 1@", "table x: 1; table y: 1;@;", "table x: 1 @table", "table x: 1 |@| 1",
                     "table x: 1@}"):
            self.refused(read_model, ahead + text)

    def test_ratios(self):
        ahead = "names x; sizes 2; table x: "
        for text in ("1/@0", "1/@-1", "1/@-3, 4/3;", "1/@x", "1/@/2", "1/2@/3", "1@:", "1/@,", "1/@;", "1, @/2",
                     "@x", "@/", "1/2 @3", "1/@", "1/2@"):
            self.refused(read_model, ahead + text)
        self.assertEqual(read_model(ahead + "1/1, 0/1;")[3], ((((1, 1), (0, 1)),),))
        self.assertEqual(read_model(ahead + "0, 1;")[3], ((((0, 1), (1, 1)),),))
        for one in ("1/3, 2 / 3", "1 /3 , 4/6", "10/30,20/30", "1/3,\n# half\n2/3"):
            self.assertEqual(read_model(ahead + one + ";")[3], ((((1, 3), (2, 3)),),))

    def test_what_has_the_form_and_is_none(self):
        for text in ("1, 1", "1/2, 1/3", "1", "1, 0, 0", "-1, 2", "3/2, -1/2", "1/2, 1/2 | 1/2, 1/2", "0, 0", "0", "-1/2, 3/2",
                     "1, 10", "1/2, 1/2 | 1"):
            whole = f"names x; sizes 2; table x: {text};"
            self.assertIs(refusal(InvalidModel, read_model, whole).given, whole)
            self.assertIs(refusal(InvalidModel, read_model, text=whole).given, whole)

    def test_far_too_great_ones(self):
        names = ", ".join(EIGHT[:6])
        tables = " ".join(f"table {name}: 1, 0, 0, 0;" for name in EIGHT[:6])
        whole = f"names {names}; sizes 4, 4, 4, 4, 4, 4; {tables}"
        self.assertIs(refusal(InvalidModel, read_model, whole).given, whole)
        self.refused(read_model, whole + "@;")
        self.refused(read_model, f"names {names}; sizes 4, 4, 4, 4, 4, @5; {tables}")
        for count in (64, 65):
            states, rows = ", ".join([f"1/{count}"] * count), " | ".join(["1, 0"] * count)
            whole = (f"names x, y; hidden {{x, y}}; sizes 2, 2; lot {{x, y}}: {states}; "
                     f"table x: {rows}; table y: {rows};")
            if count == 64:
                self.assertEqual(len(read_model(whole)[2][0]), 64)
            else:
                self.assertIs(refusal(InvalidModel, read_model, whole).given, whole)
        whole = "names x; sizes 2; table x: " + " | ".join(["1/2, 1/2"] * 50001) + ";"
        self.assertIs(refusal(InvalidModel, read_model, whole).given, whole)

    def test_a_wrong_text_comes_ahead_of_a_wrong_model(self):
        self.refused(read_model, "names x, y; sizes 2, 2; table x: 1, 1; table y: 1/2, 1/3;@?")
        self.refused(read_model, "names x, y; sizes 2, 2; table x: 1, 1; table @x: 1, 0;")
        self.refused(read_model, "names x; sizes 2; table x: 5, 5 @lot")

    def test_every_beginning_is_refused_at_its_end(self):
        text = " ".join(BOW_TEXT.replace(",", " ,").replace(":", " :").replace(";", " ;").replace("/", " / ").split())
        tokens = text.replace("{", "{ ").replace("}", " }").split()
        self.assertEqual(read_model(" ".join(tokens)), BOW_MODEL)
        for between in (" ", "\n", " # x\n"):
            self.assertEqual(read_model(between.join(tokens)), BOW_MODEL)
            for count in range(len(tokens)):
                self.refused(read_model, between.join(tokens[:count]) + "@")


class Formulas(Case):
    def read(self, text, told=SEEN):
        return read_formula(DOOR, told, text)

    def test_formulas(self):
        for text, value in (
                ("told 0", LEAF), ("(told 0)", LEAF), ("((( told 0 )))", LEAF), ("sum {} told 0", ("sum", (), LEAF)),
                ("sum {y, x} told 0", ("sum", (0, 2), LEAF)), ("sum {x} sum {y} told 0", ("sum", (0,), ("sum", (2,), LEAF))),
                ("told 0 / told 0", ("over", LEAF, LEAF)), ("told 0 * told 0", ("times", LEAF, LEAF)),
                ("told 0 * told 0 * told 0", ("times", LEAF, LEAF, LEAF)),
                ("(told 0 * told 0) * told 0", ("times", ("times", LEAF, LEAF), LEAF)),
                ("told 0 * (told 0 * told 0)", ("times", LEAF, ("times", LEAF, LEAF))),
                ("told 0 * told 0 / told 0", ("over", ("times", LEAF, LEAF), LEAF)),
                ("told 0 / told 0 * told 0", ("over", LEAF, ("times", LEAF, LEAF))),
                ("(told 0 / told 0) / told 0", ("over", ("over", LEAF, LEAF), LEAF)),
                ("told 0 / (told 0 / told 0)", ("over", LEAF, ("over", LEAF, LEAF))),
                ("told 0 * (told 0 / told 0)", ("times", LEAF, ("over", LEAF, LEAF))),
                ("sum {x} told 0 * told 0", ("times", ("sum", (0,), LEAF), LEAF)),
                ("sum {x} (told 0 * told 0)", ("sum", (0,), ("times", LEAF, LEAF))),
                ("sum {x} told 0 / told 0", ("over", ("sum", (0,), LEAF), LEAF)),
                ("sum {x} (told 0 / told 0)", ("sum", (0,), ("over", LEAF, LEAF))),
                ("(sum {x} told 0)", ("sum", (0,), LEAF)), ("sum {x} ((told 0))", ("sum", (0,), LEAF)),
                ("((told 0) / (told 0))", ("over", LEAF, LEAF)), ("\n(\n#(\ntold\n0\n)", LEAF)):
            self.assertEqual(self.read(text), value)
        self.assertEqual(read_formula(text="told 0", told=SEEN, graph=DOOR), LEAF)

    def test_indexes_of_told(self):
        told = ((0,), (1,), (2,), (0, 1), (0, 2), (1, 2))
        for count in range(1, 7):
            for at in range(count):
                self.assertEqual(self.read(f"told {at}", told[:count]), ("told", at))
            self.refused(lambda text: self.read(text, told[:count]), f"told @{count}")
            self.refused(lambda text: self.read(text, told[:count]), f"told 0 * sum {{}} told @{count + 1} ?")
        self.refused(self.read, "told @-1")
        self.refused(self.read, "told @" + "9" * 400)

    def test_refused_ones(self):
        for text in ("@", "@0", "@x", "@)", "(@)", "@;", "@{x}", "@/", "@* told 0", "told@", "told @x", "told @told 0", "told 0 @told 0",
                     "told 0 @0", "told 0 /@", "told 0 /@/ told 0", "told 0 / told 0 @/ told 0", "told 0 *@* told 0",
                     "told 0 *@", "told 0@)", "(told 0@", "(told 0 @told 0)", "(told 0 / told 0 @/ told 0)", "sum@", "sum @told 0",
                     "sum @x told 0", "sum {x}@", "sum {x} @{y} told 0", "sum {x} @/ told 0", "sum {x} @)", "sum {@q} told 0",
                     "sum {x, @x} told 0", "sum {x,@} told 0", "told 0@,", "told 0@;", "told 0 @on", "@lot", "@sums", "@names",
                     "((told 0)@", "((told 0))@)", "(told 0@}", "told 0@:", "sum {x} (told 0 @sum {x} told 0)",
                     "told 0 / told 0 * told 0 @/ told 0", "told 0@|", "told 0 @-> told 0", "told 0 * @0"):
            self.refused(self.read, text)

    def test_sixty_words_and_brackets_at_one_place(self):
        for make in (lambda count: ["("] * count, lambda count: ["sum {}"] * count,
                     lambda count: (["sum {x}", "("] * count)[:count], lambda count: (["(", "sum {x}"] * count)[:count],
                     lambda count: ["("] * (count // 2) + ["sum {y}"] * (count - count // 2)):
            for count in (60, 61, 62, 300):
                row = make(count)
                behind = " told 0" + ")" * row.count("(")
                if count == 60:
                    text = " ".join(row) + behind
                    if row.count("(") == 60:
                        self.assertEqual(self.read(text), LEAF)
                    elif row.count("(") == 0:
                        self.assertIs(refusal(InvalidFormula, self.read, text).given, text)
                    else:
                        self.assertEqual(self.read(text)[0], "sum")
                else:
                    self.refused(self.read, " ".join(row[:60]) + " @" + " ".join(row[60:]) + behind)
                    self.refused(self.read, " ".join(row[:60]) + " @" + row[60])

    def test_what_has_ended_is_not_open(self):
        many = "(" * 60 + "told 0" + ")" * 60
        self.assertEqual(self.read(f"{many} * {many} / {many}"), ("over", ("times", LEAF, LEAF), LEAF))
        sums = "sum {} " * 59 + "told 0"
        self.assertEqual(self.read(sums)[0], "sum")
        text = " * ".join(["sum {} told 0"] * 8)
        self.assertEqual(self.read(text), ("times",) + (("sum", (), LEAF),) * 8)
        inner = "(" * 59 + "sum {x} told 0 * sum {y} (told 0)" + ")" * 59
        self.refused(self.read, inner.replace("(told 0)", "@(told 0)"))
        self.assertEqual(self.read(inner.replace("(told 0)", "told 0"))[0], "times")
        self.refused(self.read, "(" * 60 + "told 0 * @(told 0)" + ")" * 60)
        self.refused(self.read, "(" * 60 + "told 0 / @sum {} told 0" + ")" * 60)

    def test_too_deep(self):
        for count, good in ((58, True), (59, True), (60, False)):
            text = "(" * count + "told 0" + " * told 0)" * count
            self.check(text, good)
            self.check("sum {} " * count + "told 0", good)
        for count, good in ((29, True), (30, False)):
            self.check("(" * count + "told 0" + " * told 0 / told 0)" * count, good)
        self.check("(" * 29 + "told 0" + " * told 0 / told 0)" * 29 + " * told 0", True)
        self.check("(" * 29 + "told 0" + " * told 0 / told 0)" * 29 + " * told 0 / told 0", False)

    def test_too_many_factors(self):
        for count in range(2, 12):
            self.check(" * ".join(["told 0"] * count), count <= 8)
            self.check("sum {x} (" + " * ".join(["told 0"] * count) + ") / told 0", count <= 8)
        self.check(" * ".join(["told 0"] * 8) + " / " + " * ".join(["told 0"] * 8), True)

    def test_too_many_parts(self):
        eight = "(" + " * ".join(["told 0"] * 8) + ")"
        many = "(" + " * ".join([eight] * 8) + ")"
        most = "(" + " * ".join([many] * 6) + ")"
        # 6 * 73 + 1 = 439 parts; nine of them, over and times 3,951 + 3; 46 more are allowed.
        nine = " * ".join([most] * 8) + " / (" + most
        for more, good in ((45, True), (46, False)):
            sums = "sum {} " * more + "told 0"
            text = nine + " * " + sums + ")"
            count = 9 * 439 + 3 + more + 1
            self.assertEqual(count <= 4000, good)
            self.check(text, good)

    def test_a_wrong_text_comes_ahead_of_a_wrong_formula(self):
        text = " * ".join(["told 0"] * 9)
        self.refused(self.read, text + " @told")
        self.refused(self.read, text + " * @")
        self.refused(self.read, text + " / told @1")

    def check(self, text, good):
        if good:
            self.assertIn(self.read(text)[0], ("told", "sum", "over", "times"))
        else:
            self.assertIs(refusal(InvalidFormula, self.read, text).given, text)
            self.assertIs(refusal(InvalidFormula, read_formula, told=SEEN, text=text, graph=DOOR).given, text)


if __name__ == "__main__":
    unittest.main()
