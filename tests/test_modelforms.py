"""What is a MODEL: points A2 and A3, as is_positive, table, effect and show_model refuse what is none."""

import unittest

from causaleffects.errors import InvalidModel
from causaleffects.models import effect, is_positive, table
from causaleffects.text import read_model, show_model
from helpers import BOW, DOOR, EIGHT, FLIPS, LONE, PLAIN, WRONG, bends, refusal, some_model, some_models

HALF = ((1, 2), (1, 2))
COIN = (LONE, (2,), (), ((HALF,),))
BOW_MODEL = (BOW, (2, 2), (HALF,), ((HALF, HALF), (HALF, HALF, HALF, HALF)))


def is_model(value):
    """Whether a value is taken as a MODEL, by every function alike."""
    found = []
    for call, more in ((is_positive, ()), (show_model, ()), (table, ((0,),)), (effect, ((), (0,)))):
        try:
            call(value, *more)
            found.append(True)
        except InvalidModel as wrong:
            assert wrong.given is value
            found.append(False)
    assert len(set(found)) == 1
    return found[0]


def lone(*row, size=None):
    """A model of one variable with this row."""
    return (LONE, (len(row) if size is None else size,), (), ((tuple(row),),))


class Ratios(unittest.TestCase):
    def test_chances(self):
        self.assertTrue(is_model(lone((1, 2), (1, 2))))
        self.assertTrue(is_model(lone((0, 1), (1, 1))))
        self.assertTrue(is_model(lone((1, 1), (0, 1))))
        self.assertTrue(is_model(lone((1, 3), (1, 3), (1, 3))))
        many = 10 ** 399
        self.assertTrue(is_model(lone((1, many), (many - 1, many))))

    def test_not_in_lowest_terms(self):
        for row in (((2, 4), (1, 2)), ((0, 2), (1, 1)), ((0, 1), (2, 2)), ((3, 9), (2, 3)), ((1, 2), (50, 100))):
            self.assertFalse(is_model(lone(*row)), row)

    def test_signs_of_divisors(self):
        for row in (((-1, -2), (1, 2)), ((1, 0), (1, 2)), ((0, 0), (1, 1)), ((0, -1), (1, 1)), ((1, 2), (-1, -2))):
            self.assertFalse(is_model(lone(*row)), row)

    def test_chances_below_0_and_above_1(self):
        for row in (((-1, 2), (3, 2)), ((3, 2), (-1, 2)), ((-1, 1), (2, 1)), ((2, 1), (-1, 1), (0, 1))):
            self.assertFalse(is_model(lone(*row)), row)

    def test_other_things_than_ratios(self):
        for one in WRONG + ((1,), (1, 2, 3), 1, (True, 2), (1, True), (1, "2"), [1, 2], ((1, 2),), ("1", 2), (None, 2)):
            self.assertFalse(is_model(lone(one, (1, 2))), repr(one))
            self.assertFalse(is_model(lone((1, 2), one)), repr(one))

    def test_true_is_no_1(self):
        self.assertTrue(is_model(lone((1, 1), (0, 1))))
        for row in (((True, 1), (0, 1)), ((1, True), (0, 1)), ((1, 1), (False, 1)), ((1, 1), (0, True))):
            self.assertFalse(is_model(lone(*row)), row)


class Sizes(unittest.TestCase):
    def test_from_2_to_4(self):
        for size in (2, 3, 4):
            self.assertTrue(is_model((LONE, (size,), (), ((((1, size),) * size,),))))
        for size in (0, 1, 5, -2, 64):
            self.assertFalse(is_model((LONE, (size,), (), ((((1, max(size, 1)),) * size,),))), size)

    def test_one_for_each_variable(self):
        for sizes in ((), (2,), (2, 2, 2), (2, 3), [2, 2], None, 2, "22", ("2", "2"), (2, None), (2, True), {2: 2}):
            self.assertFalse(is_model((PLAIN, sizes, (), FLIPS[3])), sizes)
        self.assertFalse(is_model((PLAIN, (2, 2, 2), (), FLIPS[3] + ((HALF,),))))
        self.assertFalse(is_model((PLAIN, (2,), (), FLIPS[3][:1])))

    def test_settings_together(self):
        for sizes, good in (((4,) * 5, True), ((2,) * 8, True), ((4, 4, 2, 2, 2, 2, 2, 2), True),
                            ((4, 4, 4, 4, 4, 2), False), ((4,) * 6, False), ((3,) * 6, True), ((3,) * 7, False),
                            ((4, 4, 4, 2, 2, 2, 2, 2), False), ((4, 4, 4, 4, 3, 2), False)):
            model = some_model((EIGHT[:len(sizes)], (), ()), sizes, (), 1)
            self.assertEqual(is_model(model), good, sizes)


class States(unittest.TestCase):
    def test_one_to_64(self):
        pair = (("x", "y"), (), ((0, 1),))
        for count in (1, 2, 63, 64, 65, 66):
            model = some_model(pair, (2, 2), (count,), count)
            self.assertEqual(is_model(model), count <= 64, count)
        self.assertFalse(is_model((pair, (2, 2), ((),), ((), ()))))

    def test_they_add_up_to_1(self):
        rows = BOW_MODEL[3]
        for row in (((1, 2), (1, 3)), ((1, 2), (2, 3)), ((1, 1), (1, 1)), ((0, 1), (0, 1)), ((-1, 2), (3, 2)),
                    ((2, 4), (1, 2))):
            self.assertFalse(is_model((BOW, (2, 2), (row,), rows)), row)
        for row in (((1, 7), (6, 7)), ((0, 1), (1, 1))):
            self.assertTrue(is_model((BOW, (2, 2), (row,), rows)), row)

    def test_one_tuple_for_each_lot(self):
        rows = BOW_MODEL[3]
        for hidden in ((), (HALF, HALF), HALF, [HALF], (list(HALF),), None, ((1, 1),), (None,), ("",)):
            self.assertFalse(is_model((BOW, (2, 2), hidden, rows)), hidden)
        self.assertFalse(is_model((PLAIN, (2, 2), (HALF,), FLIPS[3])))


class Rows(unittest.TestCase):
    def test_rows_left_out_and_put_in(self):
        for model in (FLIPS, BOW_MODEL, some_model(DOOR, (2, 3, 2), (3,), 4)):
            graph, sizes, hidden, rows = model
            self.assertTrue(is_model(model))
            for at, one in enumerate(rows):
                for wrong in (one[:-1], one[1:], one + one[:1], one[:1] + one, (), one[0], one + one):
                    self.assertFalse(is_model((graph, sizes, hidden, rows[:at] + (wrong,) + rows[at + 1:])))
            for wrong in ((), rows[:-1], rows[1:], rows + rows[:1], rows + ((),)):
                self.assertFalse(is_model((graph, sizes, hidden, wrong)))

    def test_chances_left_out_and_put_in(self):
        for row in (((1, 1),), ((1, 2), (1, 2), (0, 1)), ((1, 3), (1, 3), (1, 3)), (), HALF + HALF):
            self.assertFalse(is_model(lone(*row, size=2)), row)
        self.assertFalse(is_model(lone((1, 2), (1, 2), size=3)))

    def test_they_add_up_to_1(self):
        for row in (((1, 2), (1, 3)), ((1, 2), (2, 3)), ((0, 1), (0, 1)), ((1, 1), (1, 1)), ((1, 1), (1, 10 ** 50))):
            self.assertFalse(is_model(lone(*row)), row)
            self.assertFalse(is_model((PLAIN, (2, 2), (), ((HALF,), (HALF, row)))), row)
            self.assertFalse(is_model((PLAIN, (2, 2), (), ((HALF,), (row, HALF)))), row)

    def test_up_to_100000_chances(self):
        # d has 2 chances for each of 8 settings of its parents and each row of states, the others 2 for each state.
        arrows = ((0, 3), (1, 3), (2, 3))
        for states, size, count in (((6, 20, 52), 4, 100000), ((5, 26, 48), 2, 100000), ((5, 26, 48), 3, 100001),
                                    ((5, 26, 48), 4, 100002), ((8, 13, 60), 2, 100004), ((38, 10, 17), 2, 103492)):
            self.assertEqual(2 * sum(states) + 16 * states[0] * states[1] * states[2] + size, count)
            model = some_model((("a", "b", "c", "d", "e"), arrows, arrows), (2, 2, 2, 2, size), states, 1)
            self.assertEqual(is_model(model), count <= 100000, count)

    def test_far_too_many_chances_are_counted_alone(self):
        graph = (EIGHT, (), tuple((0, one) for one in range(1, 8)))
        hidden = (((1, 64),) * 64,) * 7
        self.assertFalse(is_model((graph, (2,) * 8, hidden, ((HALF,),) * 8)))


class Models(unittest.TestCase):
    def test_models(self):
        for model in (COIN, FLIPS, BOW_MODEL, *some_models()):
            self.assertTrue(is_model(model))

    def test_what_is_none(self):
        for value in WRONG + ((), FLIPS[:3], FLIPS + ((),), list(FLIPS), (FLIPS,), "names x;", (None,) * 4, PLAIN):
            self.assertFalse(is_model(value), repr(value))

    def test_bent_ones(self):
        for model in (COIN, (LONE, (2,), (), ((((0, 1), (1, 1)),),)), BOW_MODEL):
            for value in bends(model):
                with self.assertRaises(InvalidModel) as found:
                    is_positive(value)
                self.assertIs(found.exception.given, value)

    def test_nothing_is_changed(self):
        model = [[["x"], [], []], [2], [], [[[[1, 2], [1, 2]]]]]
        self.assertIs(refusal(InvalidModel, is_positive, model).given, model)
        self.assertEqual(model, [[["x"], [], []], [2], [], [[[[1, 2], [1, 2]]]]])

    def test_the_graph_within(self):
        for graph in (("x",), (("x",), ()), (("x",), (), (), ()), (("lot",), (), ()), (("x",), ((0, 0),), ())):
            self.assertFalse(is_model((graph, (2,), (), ((HALF,),))))


class Positive(unittest.TestCase):
    def test_positive_ones(self):
        for model in (COIN, FLIPS, BOW_MODEL):
            self.assertIs(is_positive(model), True)
        self.assertIs(is_positive(model=COIN), True)
        self.assertIs(is_positive(read_model("names x; sizes 3; table x: 1/3, 4/6, 0;")), False)

    def test_one_chance_0(self):
        zero = ((0, 1), (1, 1))
        self.assertFalse(is_positive((LONE, (2,), (), ((zero,),))))
        self.assertFalse(is_positive((LONE, (2,), (), ((zero[::-1],),))))
        self.assertFalse(is_positive((BOW, (2, 2), (zero,), BOW_MODEL[3])))
        for at, count in ((0, 2), (1, 4)):
            for row in range(count):
                rows = list(BOW_MODEL[3])
                rows[at] = tuple(zero if one == row else HALF for one in range(count))
                self.assertFalse(is_positive((BOW, (2, 2), (HALF,), tuple(rows))))

    def test_a_lone_state_is_sure(self):
        self.assertTrue(is_positive((BOW, (2, 2), (((1, 1),),), ((HALF,), (HALF, HALF)))))
        self.assertTrue(is_positive((BOW, (2, 2), (((1, 5),) * 5,), ((HALF,) * 5, (HALF,) * 10))))


if __name__ == "__main__":
    unittest.main()
