import unittest

from common import CHAIN, CROWD, CUBE, HUGE, OrderCase, belows, covers, few_things, has_ring, many_things, reached
from meetjoin import errors
from meetjoin.errors import BadPair, BadThings, NoThing, Ring
from meetjoin.order import Order, turned


class MakingTest(OrderCase):
    def test_one_and_sixteen_things_are_taken(self):
        for many in range(1, 17):
            self.assertEqual(Order(many, []).many(), many)

    def test_too_few_and_too_many_things(self):
        for many in (-HUGE, -17, -1, 0, 17, 18, 1000, HUGE):
            self.refuses(BadThings, Order, many, [])

    def test_sixty_pairs_are_taken(self):
        self.assertEqual(Order(16, CROWD).right_below(), CROWD)
        self.assertEqual(Order(2, [(0, 1)] * 60).right_below(), [(0, 1)])
        self.assertEqual(Order(1, [(0, 0)] * 60).right_below(), [])

    def test_sixty_one_pairs_are_refused(self):
        self.refuses(BadPair, Order, 16, CROWD + [(7, 12)])
        self.refuses(BadPair, Order, 2, [(0, 1)] * 61)
        self.refuses(BadPair, Order, 1, [(0, 0)] * 61)
        self.refuses(BadPair, Order, 1, [(0, 0)] * 200)

    def test_pair_that_names_no_thing(self):
        for many in (1, 3, 16):
            for wrong in (-HUGE, -many - 1, -many, -1, many, many + 1, HUGE):
                self.refuses(BadPair, Order, many, [(wrong, 0)])
                self.refuses(BadPair, Order, many, [(0, wrong)])
                self.refuses(BadPair, Order, many, [(wrong, wrong)])
                self.refuses(BadPair, Order, many, [(0, 0), (0, many - 1), (0, wrong)])

    def test_pair_that_names_the_last_thing_is_taken(self):
        for many in (2, 16):
            self.assertEqual(Order(many, [(0, many - 1)]).right_below(), [(0, many - 1)])
            self.assertEqual(Order(many, [(many - 1, 0)]).right_below(), [(many - 1, 0)])

    def test_rings(self):
        self.refuses(Ring, Order, 2, [(0, 1), (1, 0)])
        self.refuses(Ring, Order, 3, [(0, 1), (1, 2), (2, 0)])
        self.refuses(Ring, Order, 5, [(3, 4), (0, 2), (4, 1), (1, 3)])
        self.refuses(Ring, Order, 16, CHAIN + [(15, 0)])
        self.refuses(Ring, Order, 16, [(15, 14)] + CHAIN)

    def test_thing_paired_with_itself_is_no_ring(self):
        order = Order(3, [(1, 1), (0, 1), (0, 0)])
        self.assertEqual(belows(order), {(0, 0), (1, 1), (2, 2), (0, 1)})

    def test_bad_things_come_first(self):
        for many in (-1, 0, 17):
            self.refuses(BadThings, Order, many, [(0, 1), (1, 0)])
            self.refuses(BadThings, Order, many, [(0, 40)])
            self.refuses(BadThings, Order, many, [(0, 0)] * 61)
            self.refuses(BadThings, Order, many, [(0, 1), (1, 0), (-1, 0)] * 30)

    def test_bad_pair_comes_ahead_of_ring(self):
        self.refuses(BadPair, Order, 2, [(0, 1), (1, 0), (0, 2)])
        self.refuses(BadPair, Order, 2, [(-1, 0), (0, 1), (1, 0)])
        self.refuses(BadPair, Order, 2, [(0, 1), (1, 0)] * 31)


class BelowTest(OrderCase):
    def test_no_pairs(self):
        for many in (1, 2, 16):
            self.assertEqual(belows(Order(many, [])), {(a, a) for a in range(many)})

    def test_chain_of_sixteen(self):
        for pairs in (CHAIN, CHAIN[::-1], CHAIN[8:] + CHAIN[:8]):
            order = Order(16, pairs)
            self.assertEqual(belows(order), {(a, b) for b in range(16) for a in range(b + 1)})

    def test_by_way_of_others(self):
        order = Order(5, [(4, 2), (2, 0), (0, 3)])
        self.assertIs(order.below(4, 3), True)
        self.assertIs(order.below(3, 4), False)
        self.assertIs(order.below(4, 1), False)
        self.assertIs(order.below(1, 3), False)

    def test_pairs_named_more_than_once(self):
        order = Order(3, [(0, 1), (1, 2), (0, 1), (0, 2), (0, 2)])
        self.assertEqual(belows(order), belows(Order(3, [(0, 1), (1, 2)])))

    def test_sets_of_four(self):
        order = Order(16, CUBE)
        self.assertEqual(belows(order), {(a, b) for a in range(16) for b in range(16) if a & b == a})

    def test_tells_true_or_false(self):
        for order in (Order(1, []), Order(3, [(0, 1), (1, 2)]), Order(16, CROWD)):
            for a in range(order.many()):
                for b in range(order.many()):
                    self.assertIs(type(order.below(a, b)), bool)

    def test_thing_that_is_not_there(self):
        for many in (1, 4, 16):
            order = Order(many, [(0, many - 1)])
            for wrong in (-HUGE, -many - 1, -many, -1, many, many + 1, 100, HUGE):
                self.refuses(NoThing, order.below, wrong, 0)
                self.refuses(NoThing, order.below, many - 1, wrong)
                self.refuses(NoThing, order.below, wrong, wrong)

    def test_every_order_of_few_things(self):
        for many, pairs in few_things():
            found = reached(many, pairs)
            if has_ring(found):
                self.refuses(Ring, Order, many, pairs)
            else:
                self.assertEqual(belows(Order(many, pairs)), found, pairs)

    def test_orders_of_many_things(self):
        for many, pairs in many_things():
            self.assertEqual(belows(Order(many, pairs)), reached(many, pairs), pairs)


class RightBelowTest(OrderCase):
    def test_no_pairs(self):
        for many in (1, 16):
            self.assertEqual(Order(many, []).right_below(), [])
        self.assertEqual(Order(2, [(0, 0), (1, 1)]).right_below(), [])

    def test_pairs_with_a_third_between_are_left_out(self):
        order = Order(4, [(0, 3), (0, 2), (2, 3), (1, 3), (0, 1)])
        self.assertEqual(order.right_below(), [(0, 1), (0, 2), (1, 3), (2, 3)])

    def test_rising_tuples_whatever_the_order_of_the_pairs(self):
        self.assertEqual(Order(16, CHAIN[::-1]).right_below(), CHAIN)
        self.assertEqual(Order(16, CUBE[::-1]).right_below(), sorted(CUBE))
        self.assertEqual(Order(3, [(2, 1), (2, 0)]).right_below(), [(2, 0), (2, 1)])

    def test_each_pair_once(self):
        self.assertEqual(Order(3, [(0, 1), (0, 1), (1, 2), (0, 2)]).right_below(), [(0, 1), (1, 2)])

    def test_tells_a_list_of_tuples(self):
        told = Order(16, CUBE).right_below()
        self.assertIs(type(told), list)
        self.assertEqual({type(pair) for pair in told}, {tuple})

    def test_every_order_of_few_things(self):
        for many, pairs in few_things():
            found = reached(many, pairs)
            if not has_ring(found):
                self.assertEqual(Order(many, pairs).right_below(), covers(found), pairs)

    def test_orders_of_many_things(self):
        for many, pairs in many_things():
            self.assertEqual(Order(many, pairs).right_below(), covers(reached(many, pairs)), pairs)


class OwnTest(OrderCase):
    def test_pairs_that_are_handed_in_stay(self):
        pairs = [(1, 2), (0, 1), (0, 1), (2, 2)]
        Order(3, pairs)
        self.assertEqual(pairs, [(1, 2), (0, 1), (0, 1), (2, 2)])

    def test_pairs_that_are_refused_stay(self):
        for given in ([(0, 1), (1, 0)], [(0, 1), (0, 9)], [(1, 0)] * 61):
            pairs = list(given)
            self.assertRaises(errors.OrderError, Order, 2, pairs)
            self.assertEqual(pairs, given)

    def test_pairs_changed_afterwards_change_nothing(self):
        pairs = [(0, 1), (1, 2)]
        order = Order(3, pairs)
        pairs.append((2, 0))
        pairs[0] = (1, 0)
        self.assertEqual(order.right_below(), [(0, 1), (1, 2)])
        pairs.clear()
        self.assertEqual(order.right_below(), [(0, 1), (1, 2)])
        self.assertEqual(belows(order), {(0, 0), (1, 1), (2, 2), (0, 1), (1, 2), (0, 2)})

    def test_told_list_changed_changes_nothing(self):
        order = Order(3, [(0, 1), (1, 2)])
        told = order.right_below()
        self.assertIsNot(order.right_below(), told)
        told.append((2, 0))
        told[0] = (1, 0)
        self.assertEqual(order.right_below(), [(0, 1), (1, 2)])
        told.clear()
        self.assertEqual(order.right_below(), [(0, 1), (1, 2)])
        self.assertIs(order.below(0, 2), True)

    def test_orders_share_nothing(self):
        pairs = [(0, 1)]
        first = Order(2, pairs)
        pairs[0] = (1, 0)
        second = Order(2, pairs)
        self.assertEqual(first.right_below(), [(0, 1)])
        self.assertEqual(second.right_below(), [(1, 0)])


class TurnedTest(OrderCase):
    def check_turned(self, many, pairs):
        order = Order(many, pairs)
        before = belows(order)
        other = turned(order)
        self.assertIsInstance(other, Order)
        self.assertEqual(other.many(), many)
        self.assertEqual(belows(other), {(b, a) for a, b in before}, pairs)
        self.assertEqual(other.right_below(), sorted((b, a) for a, b in order.right_below()))
        self.assertEqual(belows(turned(other)), before, pairs)
        self.assertEqual(belows(order), before, pairs)

    def test_ordinary_orders(self):
        self.check_turned(1, [])
        self.check_turned(16, [])
        self.check_turned(4, [(0, 1), (0, 2), (1, 3), (0, 3)])
        self.check_turned(3, [(0, 1), (0, 1), (2, 2)])

    def test_orders_with_many_pairs_below_one_another(self):
        self.check_turned(16, CHAIN)
        self.check_turned(16, CUBE)
        self.check_turned(16, CROWD)

    def test_every_order_of_few_things(self):
        for many, pairs in few_things():
            if not has_ring(reached(many, pairs)):
                self.check_turned(many, pairs)

    def test_orders_of_many_things(self):
        for many, pairs in many_things():
            self.check_turned(many, pairs)

    def test_is_another_order(self):
        order = Order(2, [(0, 1)])
        other = turned(order)
        self.assertIsNot(other, order)
        other.right_below().clear()
        self.assertEqual(order.right_below(), [(0, 1)])
        self.assertEqual(turned(order).right_below(), [(1, 0)])

    def test_refuses_a_thing_that_is_not_there(self):
        other = turned(Order(4, [(0, 1)]))
        for wrong in (-1, 4):
            self.refuses(NoThing, other.below, wrong, 0)
            self.refuses(NoThing, other.below, 0, wrong)


if __name__ == "__main__":
    unittest.main()
