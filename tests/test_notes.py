import random
import re
import unittest

from common import CHAIN, CROWD, CUBE, OrderCase, all_nets, belows, covers, few_orders, has_ring, many_things, reached
from meetjoin.errors import NoText
from meetjoin.notes import read, shown
from meetjoin.order import Order

EXAMPLE = "4: 0<1 0<2 1<3 2<3"
# Each sign that a text may have.
SIGNS = "\t\n" + "".join(chr(code) for code in range(32, 127) if chr(code) != "%")
FORM = re.compile(r"(0|[1-9][0-9]*):((?: (?:0|[1-9][0-9]*)<(?:0|[1-9][0-9]*))*)")
# All 64 pairs of eight things below eight others: no order is told by so many.
FULL_CROWD = [(a, b) for a in range(8) for b in range(8, 16)]


def written(many, pairs):
    return f"{many}:" + "".join(f" {a}<{b}" for a, b in pairs)


def told_pairs(text):
    """The number of things and the pairs, where the text writes an order, else None."""
    parts = FORM.fullmatch(text)
    if parts is None or len(parts[1]) > 2 or not 1 <= int(parts[1]) <= 16:
        return None
    pairs = [tuple(int(word) for word in pair.split("<")) for pair in parts[2].split()]
    if len(pairs) > 60 or any(max(pair) >= int(parts[1]) for pair in pairs):
        return None
    found = reached(int(parts[1]), pairs)
    if has_ring(found) or covers(found) != pairs:
        return None
    return int(parts[1]), pairs


def some_orders():
    return few_orders() + list(many_things()) + all_nets() + [(16, CHAIN), (16, CUBE), (16, CROWD)]


def some_texts():
    """Texts of orders, to be spoilt in one way and another."""
    orders = few_orders()[::9] + [(11, [(9, 10), (10, 8)]), (16, []), (1, []), (16, CHAIN[9:])]
    return [EXAMPLE] + [written(many, sorted(pairs)) for many, pairs in orders]


class ShownTest(OrderCase):
    def test_example_of_the_document(self):
        self.assertEqual(shown(Order(4, [(0, 1), (0, 2), (1, 3), (2, 3)])), EXAMPLE)

    def test_one_thing(self):
        self.assertEqual(shown(Order(1, [])), "1:")
        self.assertEqual(shown(Order(1, [(0, 0)])), "1:")

    def test_no_pairs(self):
        self.assertEqual(shown(Order(2, [])), "2:")
        self.assertEqual(shown(Order(16, [])), "16:")

    def test_things_of_two_figures(self):
        self.assertEqual(shown(Order(12, [(11, 10), (9, 11), (2, 10)])), "12: 2<10 9<11 11<10")
        self.assertEqual(shown(Order(16, CHAIN)), "16: 0<1 1<2 2<3 3<4 4<5 5<6 6<7 7<8 8<9 9<10 10<11 11<12 12<13 "
                                                  "13<14 14<15")

    def test_by_rising_tuples_of_numbers_not_of_texts(self):
        self.assertEqual(shown(Order(11, [(10, 1), (0, 10), (0, 9), (2, 1)])), "11: 0<9 0<10 2<1 10<1")

    def test_other_pairs_below_one_another_are_left_out(self):
        self.assertEqual(shown(Order(4, [(2, 3), (0, 3), (0, 2), (1, 3), (0, 1), (0, 1), (2, 2)])), EXAMPLE)

    def test_many_orders(self):
        for many, pairs in some_orders():
            text = shown(Order(many, pairs))
            self.assertIs(type(text), str)
            self.assertEqual(text, written(many, covers(reached(many, pairs))))
            self.assertLessEqual(len(text), 600)

    def test_order_that_is_handed_in_stays(self):
        order = Order(4, [(2, 3), (0, 3)])
        before = belows(order)
        shown(order)
        self.assertEqual(belows(order), before)
        self.assertEqual(shown(order), "4: 0<3 2<3")


class ReadTest(OrderCase):
    def test_example_of_the_document(self):
        order = read(EXAMPLE)
        self.assertIsInstance(order, Order)
        self.assertEqual(order.many(), 4)
        self.assertEqual(order.right_below(), [(0, 1), (0, 2), (1, 3), (2, 3)])
        self.assertIs(order.below(0, 3), True)

    def test_shown_texts(self):
        for many, pairs in some_orders():
            order = Order(many, pairs)
            other = read(shown(order))
            self.assertEqual(other.many(), many)
            self.assertEqual(belows(other), belows(order), pairs)
            self.assertEqual(shown(other), shown(order))

    def test_longest_text(self):
        # 60 pairs, most of them with a thing of two figures.
        names = [0, 1, 10, 11, 12, 13, 14, 15, 2, 3, 4, 5, 6, 7, 8, 9]
        order = Order(16, [(names[a], names[b]) for a, b in CROWD])
        self.assertEqual(belows(read(shown(order))), belows(order))

    def test_each_reading_is_its_own_order(self):
        first = read(EXAMPLE)
        second = read(EXAMPLE)
        self.assertIsNot(first, second)
        first.right_below().clear()
        self.assertEqual(shown(first), EXAMPLE)
        self.assertEqual(shown(second), EXAMPLE)


class NoTextTest(OrderCase):
    def refuses_all(self, texts):
        for text in texts:
            self.assertIsNone(told_pairs(text), text)
            self.refuses(NoText, read, text)

    def test_empty_text(self):
        self.refuses_all(["", " ", "\n", "\t", "  "])

    def test_no_number(self):
        self.refuses_all([":", " :", ": 0<1", "a:", "x: 0<1", "two: 0<1", "2: <1", "2: 0<", "2: <", "2: a<b", "2: 0<b"])

    def test_no_colon(self):
        self.refuses_all(["1", "2 0<1", "2", "16", "4; 0<1", "4 : 0<1", "2 0<1:", "4 0<1 0<2 1<3 2<3"])

    def test_colon_too_many(self):
        self.refuses_all(["1::", "2:: 0<1", ":2: 0<1", "2: 0<1:", "2: :", "2: 0:1"])

    def test_no_pair(self):
        self.refuses_all(["2: 0", "2: 0 1", "2: 0<1<1", "3: 0<1<2", "2: 0>1", "2: 0=1", "2: 0<=1", "2: 0,1", "2: <0<1",
                          "2: 0<<1", "2: 0<1<", "2: (0, 1)"])

    def test_blank_too_many(self):
        self.refuses_all([" 1:", "1: ", "1:  ", "1 :", " " + EXAMPLE, EXAMPLE + " ", "4:  0<1", "4: 0<1  0<2",
                          "4: 0 <1", "4: 0< 1", "4 : 0<1", "1 6:", "16: 1 0<11"])

    def test_blank_too_few(self):
        self.refuses_all(["2:0<1", "4: 0<10<2", "4: 0<1 0<21<3 2<3", "4:0<1 0<2 1<3 2<3"])

    def test_tab_or_line_end(self):
        for sign in ("\t", "\n"):
            self.refuses_all(["1:" + sign, sign + "1:", "1" + sign + ":"])
            self.refuses_all([EXAMPLE + sign, sign + EXAMPLE, EXAMPLE + " " + sign])
            self.refuses_all([EXAMPLE.replace(" ", sign), EXAMPLE.replace(" ", sign, 1), EXAMPLE.replace("<", sign)])
            self.refuses_all([EXAMPLE.replace(spot, spot + sign) for spot in (":", "<", "3")])

    def test_needless_nought(self):
        self.refuses_all(["01:", "001:", "02: 0<1", "2: 00<1", "2: 0<01", "12: 02<10", "016:", "00:", "4: 0<1 00<2"])

    def test_sign_before_a_number(self):
        self.refuses_all(["+1:", "-1:", "-0:", "+2: 0<1", "2: +0<1", "2: -0<1", "2: 0<+1", "2: 0<-1", "2: -1<0",
                          "2: 1<-1", "2: ~0<1"])

    def test_other_ways_to_write_a_number(self):
        self.refuses_all(["1_6:", "0x2: 0<1", "1.0:", "1e0:", "2: 0_0<1", "2: 0.0<1", "0b1:", "1,:", "'1':"])

    def test_thing_that_is_not_there(self):
        self.refuses_all(["1: 0<1", "1: 1<0", "2: 0<2", "2: 2<0", "4: 0<1 0<4", "15: 0<15", "16: 0<16", "16: 16<0",
                          "16: 16<17", "2: 0<100", "2: 5<6"])

    def test_number_of_things_that_no_order_has(self):
        self.refuses_all(["0:", "17:", "18:", "20:", "99:", "100:", "1000000:", "0: 0<0", "0: 0<1", "17: 0<1",
                          "17: 0<16"])

    def test_pair_twice(self):
        self.refuses_all(["2: 0<1 0<1", "4: 0<1 0<1 0<2 1<3 2<3", "4: 0<1 0<2 1<3 2<3 2<3", EXAMPLE + " 0<1"])

    def test_pairs_in_another_order(self):
        self.refuses_all(["3: 0<2 0<1", "4: 0<2 0<1 1<3 2<3", "4: 2<3 1<3 0<2 0<1", "11: 0<10 0<9", "11: 10<1 2<1",
                          "12: 1<11 1<2"])

    def test_pair_below_by_way_of_others(self):
        self.refuses_all(["3: 0<1 0<2 1<2", "4: 0<1 0<2 0<3 1<3 2<3", "4: 0<1 0<3 1<2 2<3", "4: 0<1 0<2 1<3 2<3 0<3"])

    def test_thing_below_itself(self):
        self.refuses_all(["1: 0<0", "2: 0<0 0<1", "2: 0<1 1<1", "16: 15<15"])

    def test_ring(self):
        self.refuses_all(["2: 0<1 1<0", "3: 0<1 1<2 2<0", "16: 0<1 14<15 15<14"])

    def test_more_pairs_than_an_order_is_told_by(self):
        self.assertEqual(shown(read(written(16, FULL_CROWD[:60]))), written(16, CROWD))
        self.refuses_all([written(16, FULL_CROWD[:61]), written(16, FULL_CROWD)])
        self.refuses_all([written(2, [(0, 1)] * 100), written(1, [(0, 0)] * 140)])

    def test_very_long_runs_of_figures(self):
        for length in (3, 20, 300, 590):
            for figure in "019":
                run = figure * length
                self.refuses_all([run, run + ":", "2: 0<" + run, "2: " + run + "<1", run + "1:", "2: 0<" + run + "1"])
        # Somewhat beyond what a text is said to have, and beyond what Python itself reads.
        for length in (700, 5000):
            for text in ("1" * length + ":", "0" * length + "1:", "2: 0<" + "1" * length, "2: " + "0" * length + "<1"):
                self.refuses(NoText, read, text)

    def test_texts_of_six_hundred_signs(self):
        self.refuses_all([sign * 600 for sign in SIGNS])
        self.refuses_all(["1:" + " " * 598, " " * 598 + "1:", "2:" + " 0<1" * 149, "1:" + "\n" * 598, "<" * 600])
        source = random.Random(24)
        for turn in range(300):
            few = "".join(source.choice(" :<0123456789") for place in range(600))
            any_signs = "".join(source.choice(SIGNS) for place in range(source.randrange(600)))
            self.refuses_all([few, "4: " + few[:590], any_signs])

    def test_other_words(self):
        self.refuses_all(["None", "True", "[]", "{}", "{many}:", "an order", "4: 0<1 0<2 1<3 2<3 and more", "4: ...",
                          "2: 0<1,", "2: 0<1;", "(2: 0<1)", "2: 0<1#"])

    def test_nothing_else_comes_out_of_short_texts(self):
        source = random.Random(25)
        taken = 0
        for turn in range(20000):
            text = "".join(source.choice("0123: :<< 1") for place in range(source.randrange(1, 8)))
            taken += self.check_read(text)
        self.assertGreater(taken, 20)

    def test_one_sign_put_in_left_out_or_changed(self):
        taken = 0
        for text in some_texts():
            for place in range(len(text) + 1):
                taken += self.check_read(text[:place] + text[place + 1:])
                taken += self.check_read(text[:place])
                for sign in SIGNS:
                    taken += self.check_read(text[:place] + sign + text[place:])
                    taken += self.check_read(text[:place] + sign + text[place + 1:])
        self.assertGreater(taken, 100)

    def check_read(self, text):
        """True where the text is read to the order it writes; else it has to be refused."""
        told = told_pairs(text)
        if told is None:
            self.refuses(NoText, read, text)
            return False
        order = read(text)
        self.assertEqual((order.many(), order.right_below()), told, text)
        return True


if __name__ == "__main__":
    unittest.main()
