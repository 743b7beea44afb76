"""Point 2, for points 7 to 10: functions that ask whether a thing is something, handed whatever thing."""

import itertools

from aliasrows import beside, needless, orders, sure
from aliasrows.errors import NoName, NoNumber, NoSpot, Unfit
from tests.helper import as_lists
from tests.test_things import DEEP, HUGE, ODD, Any, long_names

TABLE = (("a", "b", "c", "d"), (("a", "b"),), (("b", "c"),))
ROW = (("put", "d", 1), ("put", "a", 2), ("get", "d", "s"), ("get", "c", "t"), ("put", "b", 3))
SECOND = (ROW[1], ROW[0], *ROW[2:])
APART, NEAR, FAR = (("a", "b"), ("c",), ("d",)), (("a", "b"), ("c", "d")), (("a", "b", "d"), ("c",))
LOW, HIGH = (("get", "d", "s"),), (("get", "c", "s"),)
AHEAD = (("get", "a", "u"), ("put", "d", 1), ("get", "b", "v"))
ORDER, TURNED = ("a", "c", "b", "d"), ("c", "a", "b", "d")
POINTING = (("b", "c", "d"), (("b", "d"), ("d", "c")))

# What each function is handed, and a thing that is what it asks for.
ASKED = (
    (sure.is_sameness_for, (TABLE, ROW, "s", 1), NEAR),
    (sure.is_sameness_left, (TABLE, ROW, "a", 3), FAR),
    (beside.is_parting, (TABLE, ROW, SECOND), FAR),
    (beside.is_untold_pair, (TABLE, LOW, ROW), (APART, NEAR)),
    (beside.is_parting_ahead, (TABLE, LOW, HIGH), AHEAD),
    (orders.is_order, (TABLE,), ORDER),
    (orders.is_pointing, (TABLE,), POINTING),
    (orders.is_parting_sameness, (TABLE, ("a", "d"), ("d", "a")), FAR),
    (orders.is_turn_way, (TABLE, ORDER, TURNED), (ORDER, TURNED)),
    (needless.is_needed_by, (TABLE, ROW, 0), NEAR),
)
SAMENESSES = (sure.is_sameness_for, sure.is_sameness_left, beside.is_parting, orders.is_parting_sameness,
              needless.is_needed_by)

# Calls that raise whatever the thing is.
RAISED = (
    (sure.is_sameness_for, (TABLE, ROW, "a", 1), NoSpot),
    (sure.is_sameness_left, (TABLE, ROW, "s", 1), NoName),
    (orders.is_parting_sameness, (TABLE, ("a", "x"), ("d", "a")), NoName),
    (orders.is_turn_way, (TABLE, ORDER, ("x",)), NoName),
    (orders.is_turn_way, (TABLE, ORDER, ("a",)), Unfit),
    (needless.is_needed_by, (TABLE, ROW, 5), NoNumber),
)


class Things(Any):
    def test_odd_things_and_bent_ones(self):
        self.check_asked(ASKED)

    def test_things_of_another_kind(self):
        for (call, ahead, thing), (other, _, odd) in itertools.product(ASKED, repeat=2):
            if other in SAMENESSES and call in SAMENESSES:
                continue
            self.same(call(*ahead, odd), thing == odd, (call, odd))

    def test_errors_whatever_the_thing_is(self):
        for call, ahead, error in RAISED:
            for thing in ODD + DEEP + (HUGE, (1,) * 100000) + tuple(thing for _, _, thing in ASKED):
                self.refused(error, call, *ahead, thing)

    def test_parts_exchanged(self):
        for call, ahead, thing in ASKED:
            if call not in (beside.is_parting_ahead, orders.is_order):
                self.no(call, *ahead, thing[::-1])
            self.no(call, *ahead, thing + thing[-1:])


class Orders(Any):
    def test_orders(self):
        for thing in ((), ("d",), ("d", "c", "b", "a"), ("b", "a")):
            self.yes(orders.is_order, TABLE, thing)
        for thing in ("a", "", "ab", "abcd", ("a", "a"), ("a", "b", "a"), ("x",), ("ab",), ("",), ("a", None), (1,),
                      ("a", True), (("a",),), (["a"],), ((),), [], ["a"], None, 0):
            self.no(orders.is_order, TABLE, thing)
        self.no(orders.is_order, TABLE, long_names(30000))
        self.no(orders.is_order, TABLE, ("a", "b", "c", "d") * 30000)


class TurnWays(Any):
    def test_odd_things_on_the_way(self):
        self.yes(orders.is_turn_way, TABLE, ORDER, TURNED, (ORDER, TURNED, ORDER, TURNED))
        for odd in ODD + DEEP + (ORDER[1:], ORDER[:1], (*ORDER, "x"), ("a", "c", "b", "x"), ("a", "c", "c", "d"), (),
                                 list(ORDER), ORDER * 2, ORDER + ORDER[:1], "acbd", (ORDER,), ("a", ["c"], "b", "d")):
            self.no(orders.is_turn_way, TABLE, ORDER, TURNED, (ORDER, odd, ORDER, TURNED))
            self.no(orders.is_turn_way, TABLE, ORDER, TURNED, (ORDER, TURNED, odd, TURNED))
            self.no(orders.is_turn_way, TABLE, ORDER, TURNED, (ORDER, odd, TURNED))
        self.no(orders.is_turn_way, TABLE, (), (), ((), ("x",), ()))
        self.no(orders.is_turn_way, TABLE, (), (), ((), [], ()))


class Pointings(Any):
    def test_lasts(self):
        for lasts in ((), ("a",), ("b",), ("d",), ("a", "c"), ("b", "c")):
            self.yes(orders.is_pointing, TABLE, (lasts, ()))
        for lasts in (("a", "b"), ("c", "a"), ("a", "a"), ("x",), ("a", "x"), ("a", "d"), ("ab",), ("",), (1,), "a",
                      ("a", None), ["a"], None, (("a",),), ("a", "b", "c"), long_names(30000), ("a",) * 30000):
            self.no(orders.is_pointing, TABLE, (lasts, ()))

    def test_arrows(self):
        lasts = ("a", "c", "d")
        for arrows in ((("a", "d"), ("c", "d")), (("a", "d"), ("d", "c")), (("c", "d"), ("d", "a")),
                       (("d", "a"), ("d", "c"))):
            self.yes(orders.is_pointing, TABLE, (lasts, arrows))
            self.no(orders.is_pointing, TABLE, (lasts, arrows[::-1]))
            self.no(orders.is_pointing, TABLE, (lasts, arrows[:1]))
            self.no(orders.is_pointing, TABLE, (lasts, list(arrows)))
            self.no(orders.is_pointing, TABLE, (lasts, (arrows[0], list(arrows[1]))))
            self.no(orders.is_pointing, TABLE, (lasts, (*arrows, None)))
            self.no(orders.is_pointing, TABLE, (lasts, tuple(sorted([*arrows, ("a", "c")]))))
            self.no(orders.is_pointing, TABLE, (lasts, tuple(sorted([*arrows, ("a", "a")]))))
            self.no(orders.is_pointing, TABLE, (lasts, arrows * 30000))
            self.no(orders.is_pointing, TABLE, (("b", "c", "d"), arrows))
            self.no(orders.is_pointing, TABLE, (lasts, arrows, ()))
            self.no(orders.is_pointing, TABLE, (lasts,))
        for arrows in ((("a", "b"), ("c", "d")), (("a", "d"), ("a", "d"), ("c", "d")), (("a", "d"), ("d", "a")),
                       ("ad", "cd"), (("a", "d", "c"),), (("a", 1), ("c", "d")), (("a",), ("c", "d")), "ad", (1, 2),
                       ((True, "d"), ("c", "d")), ((("a",), "d"), ("c", "d")), ((), ()), None, 0, True):
            self.no(orders.is_pointing, TABLE, (lasts, arrows))


class Pairs(Any):
    def test_untold_pairs(self):
        for thing in ((APART, NEAR),):
            self.yes(beside.is_untold_pair, TABLE, LOW, ROW, thing)
        for thing in ((NEAR, APART), (APART, FAR, NEAR), (APART,), (APART, None), APART, (APART, APART), [APART, NEAR],
                      (APART, ["a", "b"]), (APART, (("a", "b", "c", "d"),)), (APART, (("a", "b"), ("c", "x"))),
                      ((APART, NEAR),), (APART, NEAR) * 30000, (APART, tuple((name,) for name in long_names(30000)))):
            self.no(beside.is_untold_pair, TABLE, LOW, ROW, thing)


class RowsAhead(Any):
    def test_numbers(self):
        for number in (0, -1, HUGE, -HUGE):
            self.yes(beside.is_parting_ahead, TABLE, LOW, HIGH, (("put", "d", number),))
        for number in (True, None, "1", (1,)):
            self.no(beside.is_parting_ahead, TABLE, LOW, HIGH, (("put", "d", number),))

    def test_very_many_gets(self):
        gets = tuple(("get", "a", name) for name in long_names(30000))
        self.yes(beside.is_parting_ahead, TABLE, LOW, HIGH, gets + (("put", "d", 1),))
        self.no(beside.is_parting_ahead, TABLE, LOW, HIGH, gets)
        self.no(beside.is_parting_ahead, TABLE, LOW, HIGH, gets + gets[:1] + (("put", "d", 1),))
        self.no(beside.is_parting_ahead, TABLE, LOW, HIGH, gets + LOW + (("put", "d", 1),))
