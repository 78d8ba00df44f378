import copy
import pickle
import unittest

from heirbook import errors

NAMES = [
    "NoNumber", "NoEntry", "Full", "NoPerson", "Twice", "NoFit", "NoWay", "NoTongue", "NoWord", "Marked", "TooMany",
    "Barred", "NoCode", "Alive", "Unsure", "NoRow",
]

BARS = [("uncle", "ann", "bob"), ("niece", "bob", "ann")]
ORDERS = [["ann", "bob"], ["bob", "ann"]]
HOLDINGS = [{"": (1, 2), "cid": (1, 2)}, {"cid": (1, 1)}]


def class_of(name):
    return getattr(errors, name)


def made(name):
    if name == "Barred":
        return errors.Barred([])
    if name == "Unsure":
        return errors.Unsure(0, [], [])
    return class_of(name)("some words")


class PlaceTest(unittest.TestCase):
    def test_heir_error_is_a_value_error(self):
        self.assertTrue(issubclass(errors.HeirError, ValueError))
        self.assertEqual(str(errors.HeirError("some words")), "some words")

    def test_sixteen_stand_straight_under_heir_error(self):
        self.assertEqual(len(NAMES), 16)
        for name in NAMES:
            self.assertEqual(class_of(name).__bases__, (errors.HeirError,), name)
            self.assertEqual(class_of(name).__name__, name)

    def test_none_stands_under_another(self):
        for name in NAMES:
            for other in NAMES:
                if other != name:
                    self.assertFalse(issubclass(class_of(name), class_of(other)), (name, other))

    def test_each_is_raised_and_taken_by_its_own_name(self):
        for name in NAMES:
            with self.assertRaises(class_of(name)) as taken:
                raise made(name)
            self.assertIsInstance(taken.exception, errors.HeirError)
            self.assertIsInstance(taken.exception, ValueError)

    def test_the_others_are_made_of_a_text(self):
        for name in NAMES:
            if name not in ("Barred", "Unsure"):
                self.assertEqual(str(class_of(name)("some words")), "some words")


class FieldsTest(unittest.TestCase):
    def test_barred_has_its_bars(self):
        self.assertEqual(errors.Barred(BARS).bars, BARS)
        self.assertEqual(errors.Barred([]).bars, [])
        self.assertEqual(errors.Barred(bars=BARS).bars, BARS)

    def test_unsure_has_day_orders_and_holdings_in_this_order(self):
        refusal = errors.Unsure(-7, ORDERS, HOLDINGS)
        self.assertEqual(refusal.day, -7)
        self.assertEqual(refusal.orders, ORDERS)
        self.assertEqual(refusal.holdings, HOLDINGS)

    def test_unsure_takes_its_fields_by_name(self):
        refusal = errors.Unsure(holdings=HOLDINGS, day=3, orders=ORDERS)
        self.assertEqual((refusal.day, refusal.orders, refusal.holdings), (3, ORDERS, HOLDINGS))

    def test_the_number_of_fields_is_kept_to(self):
        for wrong in (lambda: errors.Barred(), lambda: errors.Barred([], []),
                      lambda: errors.Unsure(1, []), lambda: errors.Unsure(1, [], [], 2)):
            self.assertRaises(TypeError, wrong)

    def test_fields_are_there_when_taken_as_a_value_error(self):
        try:
            raise errors.Unsure(5, ORDERS, HOLDINGS)
        except ValueError as refusal:
            self.assertEqual((refusal.day, refusal.orders, refusal.holdings), (5, ORDERS, HOLDINGS))
        try:
            raise errors.Barred(BARS)
        except ValueError as refusal:
            self.assertEqual(refusal.bars, BARS)

    def test_kinds_are_kept(self):
        self.assertIs(type(errors.Barred(BARS).bars), list)
        refusal = errors.Unsure(5, ORDERS, HOLDINGS)
        self.assertEqual([type(order) for order in refusal.orders], [list, list])
        self.assertEqual([type(held) for held in refusal.holdings], [dict, dict])
        self.assertEqual(list(refusal.holdings[0]), ["", "cid"])

    def test_what_is_handed_in_and_what_is_told_are_two(self):
        bars = list(BARS)
        barred = errors.Barred(bars)
        bars.append(("aunt", "ann", "bob"))
        self.assertEqual(barred.bars, BARS)
        barred.bars.clear()
        self.assertEqual(len(bars), 3)

    def test_so_are_the_orders_and_holdings(self):
        orders = [["ann", "bob"], ["bob", "ann"]]
        holdings = [{"ann": (1, 1)}, {"bob": (1, 1)}]
        unsure = errors.Unsure(1, orders, holdings)
        orders[0].append("cid")
        orders.append([])
        holdings[1]["cid"] = (1, 2)
        holdings.append({})
        self.assertEqual(unsure.orders, [["ann", "bob"], ["bob", "ann"]])
        self.assertEqual(unsure.holdings, [{"ann": (1, 1)}, {"bob": (1, 1)}])
        unsure.orders[1].clear()
        unsure.holdings[0].clear()
        self.assertEqual(orders[1], ["bob", "ann"])
        self.assertEqual(holdings[0], {"ann": (1, 1)})

    def test_copies_have_the_same_fields(self):
        for refusal in (errors.Barred(BARS), errors.Unsure(5, ORDERS, HOLDINGS)):
            for other in (copy.copy(refusal), copy.deepcopy(refusal), pickle.loads(pickle.dumps(refusal))):
                self.assertIs(type(other), type(refusal))
                self.assertEqual(vars(other), vars(refusal))


if __name__ == "__main__":
    unittest.main()
