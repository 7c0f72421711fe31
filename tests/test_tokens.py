"""Cutting texts: point A5, by what read_graph, read_model and read_formula tell of them."""

import unittest

from causaleffects.errors import InvalidText
from causaleffects.text import read_formula, read_graph, read_lot, read_model
from helpers import DOOR, SEEN, WRONG, refusal

BAD_SIGNS = ("\t", "\r", "\f", "\v", "\0", "!", "\"", "$", "&", "'", "+", ".", "<", "=", ">", "?", "@", "A", "Z", "[",
             "\\", "]", "^", "_", "`", "~", "\x7f", "\u00a0", "\u00e9", "\u0661", "\u00b2", "\u2028", "\u2192", "\ud800",
             "\U0001f600", "\u0430", "\uff10", "%", "-")
DOOR_TEXT = "names x, m, y; arrows x -> m -> y; hidden {y, x};"
DOOR_TOKENS = "names x , m , y ; arrows x -> m -> y ; hidden { y , x } ;".split()
COIN_TOKENS = "names x ; sizes 2 ; table x : -1 / 3 , 4 / 3 ;".split()


def place(call, *given):
    """Where a text is refused."""
    found = refusal(InvalidText, call, *given)
    return (found.line, found.column)


class Tokens(unittest.TestCase):
    def test_they_need_no_blanks(self):
        self.assertEqual(read_graph("names x,m,y;arrows x->m->y;hidden{y,x};"), DOOR)
        self.assertEqual(read_lot(DOOR, "{y,m}"), (1, 2))
        self.assertEqual(read_formula(DOOR, SEEN, "sum{y}told 0/sum{m,y}(told 0*told 0)"), (
            "over", ("sum", (2,), ("told", 0)), ("sum", (1, 2), ("times", ("told", 0), ("told", 0)))))
        self.assertEqual(read_model("names x;sizes 2;table x:1/3,2/3;")[3], ((((1, 3), (2, 3)),),))

    def test_a_number_ends_where_no_figure_stands(self):
        self.assertEqual(read_formula(DOOR, SEEN, "told 0/told 0"), ("over", ("told", 0), ("told", 0)))
        self.assertEqual(place(read_formula, DOOR, SEEN, "told 0x"), (1, 7))
        self.assertEqual(place(read_formula, DOOR, SEEN, "told 0told 0"), (1, 7))
        self.assertEqual(place(read_formula, DOOR, SEEN, "told 0-1"), (1, 7))
        self.assertEqual(place(read_formula, DOOR, SEEN, "told0"), (1, 1))

    def test_blanks_ends_of_lines_and_remarks(self):
        for between in (" ", "\n", "   ", "\n\n", " \n ", "#\n", "# remark ; { -> 00 abcdefghijk\n", " # \t\r\u00e9 #\n#\n",
                        "\n# one\n  # two\n"):
            for tokens, call, told in ((DOOR_TOKENS, read_graph, DOOR),
                                       (["{", "y", ",", "x", "}"], lambda text: read_lot(DOOR, text), (0, 2))):
                self.assertEqual(call(between.join(tokens)), told)
                self.assertEqual(call(between + between.join(tokens) + between), told)
        self.assertEqual(read_graph(DOOR_TEXT + "# at the end"), DOOR)
        self.assertEqual(read_graph(DOOR_TEXT + "#"), DOOR)

    def test_the_sign_of_an_arrow_is_not_parted(self):
        self.assertEqual(place(read_graph, "names x, y; arrows x - > y;"), (1, 22))
        self.assertEqual(place(read_graph, "names x, y; arrows x -\n> y;"), (1, 22))
        self.assertEqual(place(read_graph, "names x, y; arrows x --> y;"), (1, 22))
        self.assertEqual(place(read_graph, "names x, y; arrows x ->> y;"), (1, 24))

    def test_words_are_not_parted(self):
        self.assertEqual(place(read_graph, "na mes x;"), (1, 1))
        self.assertEqual(place(read_graph, "names x y;"), (1, 9))
        self.assertEqual(place(read_graph, "names x#\ny;"), (2, 1))


class BadSigns(unittest.TestCase):
    def test_a_bad_sign_between_any_tokens(self):
        for tokens, call in ((DOOR_TOKENS, read_graph), (COIN_TOKENS, read_model)):
            for at in range(len(tokens) + 1):
                ahead = " ".join(tokens[:at]) + " "
                for sign in BAD_SIGNS:
                    for behind in (" " + " ".join(tokens[at:]), "", " ?", "\n"):
                        self.assertEqual(place(call, ahead + sign + behind), (1, len(ahead) + 1))
                        self.assertEqual(place(call, "# one\n" + ahead + "\n  " + sign + behind), (3, 3))

    def test_directly_behind_a_token(self):
        for sign in BAD_SIGNS:
            self.assertEqual(place(read_graph, "names x" + sign), (1, 8))
            self.assertEqual(place(read_graph, "names x;" + sign), (1, 9))
            self.assertEqual(place(read_formula, DOOR, SEEN, "told 0" + sign), (1, 7))

    def test_directly_ahead_of_a_token(self):
        for sign in BAD_SIGNS[:-1]:
            for behind in ("0", "1", ">", "->", "x", "{", "-1", "#"):
                self.assertEqual(place(read_formula, DOOR, SEEN, "told " + sign + behind), (1, 6))
                self.assertEqual(place(read_graph, "names " + sign + behind), (1, 7))
                self.assertEqual(place(read_graph, "names x, y; arrows x " + sign + behind + " y;"), (1, 22))
                self.assertEqual(place(read_lot, DOOR, sign + behind), (1, 1))

    def test_the_ninth_sign_of_a_word(self):
        self.assertEqual(read_graph("names abcdefgh;")[0], ("abcdefgh",))
        for word in ("abcdefghi", "a12345678", "abcdefgh0", "namesnames", "x" * 400, "sumsumsum", "abcdefghi?"):
            self.assertEqual(place(read_graph, "names " + word + ";"), (1, 15))
            self.assertEqual(place(read_graph, word), (1, 9))
            self.assertEqual(place(read_graph, "names x;\n " + word), (2, 10))
        self.assertEqual(place(read_graph, "names x abcdefghi;"), (1, 17))
        self.assertEqual(place(read_graph, "names x, x abcdefghi;"), (1, 10))
        self.assertEqual(place(read_lot, DOOR, "{xxxxxxxxx}"), (1, 10))

    def test_figures_behind_a_0(self):
        for figures in ("00", "01", "09", "007", "00?", "000000000000"):
            self.assertEqual(place(read_formula, DOOR, SEEN, "told " + figures), (1, 7))
            self.assertEqual(place(read_graph, "names " + figures), (1, 8))
            self.assertEqual(place(read_model, "names x; sizes 2; table x: 1/3, " + figures), (1, 34))
        self.assertEqual(place(read_formula, DOOR, SEEN, "told 10"), (1, 6))

    def test_a_0_behind_a_minus(self):
        for figures in ("-0", "-00", "-01", "-0x", "-0 1"):
            self.assertEqual(place(read_formula, DOOR, SEEN, "told " + figures), (1, 7))
            self.assertEqual(place(read_model, "names x; sizes 2; table x: " + figures), (1, 29))

    def test_a_minus_by_itself(self):
        for sign in ("-", "- 1", "-x", "--1", "-,", "-\n1", "-#", "-?", "->"):
            self.assertEqual(place(read_formula, DOOR, SEEN, "told " + sign), (1, 6))

    def test_negative_numbers(self):
        self.assertEqual(place(read_formula, DOOR, SEEN, "told -1"), (1, 6))
        self.assertEqual(place(read_formula, DOOR, SEEN, "told 0 * -1"), (1, 10))
        self.assertEqual(place(read_formula, DOOR, SEEN, "told 0-12-3"), (1, 7))

    def test_the_401st_figure(self):
        most, more = "1" * 400, "1" * 401
        for ahead in ("", "-"):
            signs = len(ahead)
            self.assertEqual(place(read_formula, DOOR, SEEN, "told " + ahead + most), (1, 6))
            self.assertEqual(place(read_formula, DOOR, SEEN, "told " + ahead + more), (1, 406 + signs))
            self.assertEqual(place(read_formula, DOOR, SEEN, "told " + ahead + "9" * 5000), (1, 406 + signs))
            self.assertEqual(place(read_formula, DOOR, SEEN, "told " + ahead + more + "?"), (1, 406 + signs))
            self.assertEqual(place(read_formula, DOOR, SEEN, "told " + ahead + most + "?"), (1, 6))
        many = "1" + "0" * 399
        told = read_model(f"names x; sizes 2; table x: 1/{many}, {'9' * 399}/{many};")
        self.assertEqual(told[3], ((((1, 10 ** 399), (10 ** 399 - 1, 10 ** 399)),),))
        self.assertEqual(place(read_model, f"names x; sizes 2; table x: 1/{many}0"), (1, 430))

    def test_tokens_ahead_of_a_bad_sign_come_first(self):
        self.assertEqual(place(read_graph, "names x x ?"), (1, 9))
        self.assertEqual(place(read_graph, "?names"), (1, 1))
        self.assertEqual(place(read_graph, "hidden ?"), (1, 1))
        self.assertEqual(place(read_graph, "names 1?"), (1, 7))
        self.assertEqual(place(read_graph, "names x, lot?"), (1, 10))

    def test_what_no_text_has_may_stand_in_remarks(self):
        for sign in BAD_SIGNS:
            self.assertEqual(read_graph(f"names x; #{sign}\n# {sign}{sign}"), (("x",), (), ()))

    def test_an_end_of_line_is_that_sign_alone(self):
        for sign in ("\r", "\v", "\f", "\x1c", "\x85", "\u2028", "\u2029"):
            self.assertEqual(read_graph(f"# one{sign}two\nnames x;"), (("x",), (), ()))
            self.assertEqual(place(read_graph, f"# one{sign}names x;"), (1, 15))


class Places(unittest.TestCase):
    def test_lines_and_columns(self):
        self.assertEqual(place(read_graph, "names x\n,\n\n   x"), (4, 4))
        self.assertEqual(place(read_graph, "\n\nnames # y\n x # ;\n\n   # \n  } # }"), (7, 3))
        self.assertEqual(place(read_graph, "names x;\nnames"), (2, 1))

    def test_texts_that_end_too_early(self):
        for text, at in (("", (1, 1)), (" ", (1, 2)), ("\n", (2, 1)), ("\n\n", (3, 1)), ("\n ", (2, 2)),
                         ("names", (1, 6)), ("names ", (1, 7)), ("names x", (1, 8)), ("names x\n", (2, 1)),
                         ("names x,", (1, 9)), ("#", (1, 2)), ("# remark", (1, 9)), ("# remark\n", (2, 1)),
                         ("# one\n# two", (2, 6)), ("names x # rest", (1, 15)), ("names x\n#\n  ", (3, 3)),
                         ("names x # \u00e9\u00e9", (1, 13))):
            self.assertEqual(place(read_graph, text), at, repr(text))
            if "names" not in text:
                for call, more in ((read_model, ()), (read_lot, (DOOR,)), (read_formula, (DOOR, SEEN))):
                    self.assertEqual(place(call, *more, text), at, repr(text))

    def test_what_is_no_text(self):
        for value in WRONG + (0, ("names x;",), ["names x;"], b"names x;"):
            if type(value) is not str:
                for call, more in ((read_graph, ()), (read_model, ()), (read_lot, (DOOR,)), (read_formula, (DOOR, SEEN))):
                    self.assertEqual(place(call, *more, value), (None, None))


if __name__ == "__main__":
    unittest.main()
