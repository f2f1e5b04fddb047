"""Everything is there under the name, and with the arguments, that the document tells."""

import inspect
import unittest

from common import KINDS
from meetjoin import errors, nets, notes, order, sets

FUNCTIONS = {
    order: {"turned": ["order"]},
    nets: {"meet": ["order", "a", "b"], "join": ["order", "a", "b"], "lacking": ["order"], "breach": ["order"],
           "inner": ["order"]},
    sets: {"plain": ["order"], "sets": ["order"], "downsets": ["order"], "net_of": ["order"], "plain_order": ["order"]},
    notes: {"shown": ["order"], "read": ["text"]},
}
METHODS = {"__init__": ["many", "pairs"], "many": [], "below": ["a", "b"], "right_below": []}


def arguments(function):
    return list(inspect.signature(function).parameters)


class InterfaceTest(unittest.TestCase):
    def test_functions(self):
        for module, told in FUNCTIONS.items():
            for name, wanted in told.items():
                self.assertEqual(arguments(getattr(module, name)), wanted, name)

    def test_methods(self):
        for name, wanted in METHODS.items():
            self.assertEqual(arguments(getattr(order.Order, name)), ["self"] + wanted, name)

    def test_classes(self):
        self.assertIsInstance(order.Order, type)
        for name in ["OrderError"] + KINDS:
            self.assertIsInstance(getattr(errors, name), type)


if __name__ == "__main__":
    unittest.main()
