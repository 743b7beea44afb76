"""Point 2, for points 11 to 15 and 18: functions that ask whether a thing is something, handed whatever thing."""

import itertools

from aliasrows import desk, more, moved, plainrow, probes, readings
from aliasrows.errors import NoSpot
from tests.helper import as_lists
from tests.test_things import DEEP, HUGE, ODD, Any, long_names

TABLE = (("a", "b", "c", "d"), (("a", "b"),), (("b", "c"),))
ROW = (("put", "a", 1), ("get", "c", "x"), ("put", "d", 2), ("get", "b", "y"))
FAR = (ROW[1], ROW[0], *ROW[2:])
CELLS, NEAR = (("a", "b"), ("c",), ("d",)), (("a", "b"), ("c", "d"))
LOOSE, THREE = (("p", "q", "r", "s"), (), ()), (("a", "b", "c"), (), ())
DEEDS = (("get", "a", "s"), ("put", "a", 1), ("put", "c", 2))
FACTS = (("apart", "a", "d"), ("one", "c", "d"))
PROBE = (("put", "a", 1), ("put", "b", 2), ("put", "c", 3), ("get", "a", "s"), ("get", "b", "t"))
STEPS = ((0, 1), (2,), (3,))

# What each function is handed, and a thing that is what it asks for.
ASKED = (
    (moved.is_way_between, (TABLE, ROW, FAR), (ROW, FAR)),
    (moved.is_steps, (TABLE, ROW), STEPS),
    (plainrow.is_form, (TABLE, DEEDS), DEEDS),
    (more.is_fact, (TABLE,), FACTS[1]),
    (more.are_facts, (TABLE,), FACTS),
    (more.are_facts_for, (TABLE, ROW, "y", 1), FACTS),
    (probes.is_alike_told, (TABLE, ROW[:2]), (NEAR, CELLS)),
    (probes.is_cover, (LOOSE,), ("p", "q", "s")),
    (probes.is_probe, (THREE,), PROBE),
    (readings.is_readings, (TABLE,), ((ROW, (("x", 2), ("y", 1))), (ROW[:1], ()))),
)


class Things(Any):
    def test_odd_things_and_bent_ones(self):
        self.check_asked(ASKED)

    def test_things_of_another_kind(self):
        for (call, ahead, _), (_, _, odd) in itertools.product(ASKED, repeat=2):
            self.same(call(*ahead, odd), odd in [thing for other, _, thing in ASKED if other == call], (call, odd))

    def test_parts_exchanged(self):
        for call, ahead, thing in ASKED:
            self.same(call(*ahead, thing[::-1]), call in (probes.is_alike_told, readings.is_readings), call)
            self.same(call(*ahead, thing + thing[-1:]), call == readings.is_readings, call)
            self.same(call(*ahead, thing * 10000), call == readings.is_readings, call)

    def test_errors_whatever_the_thing_is(self):
        for thing in ODD + DEEP + (HUGE, (1,) * 100000, (), FACTS) + tuple(thing for _, _, thing in ASKED):
            self.refused(NoSpot, more.are_facts_for, TABLE, ROW, "a", 1, thing, spot="a")
            self.refused(NoSpot, more.are_facts_for, as_lists(TABLE), as_lists(ROW), "z", None, thing, spot="z")


class Requests(Any):
    def test_odd_things(self):
        self.yes(desk.is_request, "sure")
        self.check_odd(desk.is_request)
        for _, _, thing in ASKED:
            self.no(desk.is_request, thing)
            self.no(desk.is_request, as_lists(thing))

    def test_requests_as_other_things(self):
        for line in ("undo", "put a 1", "at s", "", "a"):
            for call, ahead, _ in ASKED:
                self.no(call, *ahead, line)
                self.no(call, *ahead, (line,))
                self.no(call, *ahead, tuple(line.split()) or ("",))


class Facts(Any):
    def test_words(self):
        for thing in (("one", "a", "d"), ("apart", "c", "d"), ("one", "a", "c"), ("apart", "a", "b")):
            self.yes(more.is_fact, TABLE, thing)
        for thing in (("One", "a", "d"), ("", "a", "d"), (None, "a", "d"), (True, "a", "d"), (("one",), "a", "d"),
                      "one", ("one", "d", "a"), ("one", "a", "a"), ("one", "a", "x"), ("one", "x", "y"), ("one", "a"),
                      ("one",), ("one", "a", "d", "d"), ("one", ("a", "d")), ("a", "d"), ("one", "a", 1), ("one", 0, 1),
                      "aad", ["one", "a", "d"], ("one", ["a"], "d"), ("one", "ad", ""), (["one"], "a", "d"),
                      ("apart", None, None)):
            self.no(more.is_fact, TABLE, thing)
            self.no(more.are_facts, TABLE, (thing,))
            self.no(more.are_facts_for, TABLE, ROW, "x", None, (thing,))

    def test_sets(self):
        self.yes(more.are_facts, TABLE, (("apart", "a", "c"), ("apart", "b", "c"), ("one", "a", "b")))
        for thing in ((FACTS[1], FACTS[0]), FACTS[:1] * 2, [*FACTS], (list(FACTS[0]), FACTS[1]), (*FACTS, None), "one",
                      (*FACTS, ("one", "d")), FACTS[0], (FACTS,), (("one", "a", "c"),), (("apart", "a", "b"),),
                      (("one", "a", "d"), ("one", "c", "d")), tuple(("one", "a", "d") for _ in range(50000))):
            self.no(more.are_facts, TABLE, thing)
            self.no(more.are_facts_for, TABLE, ROW, "x", None, thing)

    def test_very_many_names(self):
        names = long_names(30000)
        self.no(more.are_facts, TABLE, tuple(("one", name, other) for name, other in zip(names, names[1:])))
        self.no(more.are_facts, TABLE, (("one", *names[:2]),) + FACTS)


class Covers(Any):
    def test_sets_of_names(self):
        for thing in (("p", "q", "r"), ("q", "r", "s"), ("p", "q", "r", "s")):
            self.yes(probes.is_cover, LOOSE, thing)
        for thing in (("q", "p", "r"), ("p", "q", "q", "r"), ("p", "q"), ("p", "q", "r", "x"), "pqr", ["p", "q", "r"],
                      (), ("p", "q", None), ("p", "q", 1), (("p", "q", "r"),), ("p", "q", ["r"]), (True, "q", "r"),
                      (1, 2, 3), ("", "p", "q", "r"), long_names(30000), ("p", "q", "r") * 30000):
            self.no(probes.is_cover, LOOSE, thing)


class Rows(Any):
    def test_numbers(self):
        for number in (0, -1, HUGE, -HUGE):
            self.yes(probes.is_probe, THREE, (("put", "a", number), *PROBE[1:]))
        for number in (True, None, "1", (1,), 2, 3):
            self.no(probes.is_probe, THREE, (("put", "a", number), *PROBE[1:]))

    def test_spots(self):
        self.no(probes.is_probe, THREE, (*PROBE[:4], ("get", "b", "s")))
        self.no(probes.is_probe, THREE, (*PROBE[:4], ("get", "b", "S")))
        self.yes(probes.is_probe, THREE, (*PROBE[:4], ("get", "b", "abcdefgh")))
        self.no(probes.is_probe, THREE, (*PROBE[:4], ("get", "x", "t")))

    def test_pairs_of_samenesses(self):
        for thing in ((CELLS, CELLS), (CELLS,), (CELLS, NEAR, CELLS), (CELLS, None), [CELLS, NEAR],
                      (as_lists(CELLS), NEAR), (CELLS, (("a", "b", "c"), ("d",))),
                      (CELLS, tuple((name,) for name in long_names(30000))), CELLS):
            self.no(probes.is_alike_told, TABLE, ROW[:2], thing)
        self.yes(probes.is_alike_told, TABLE, ROW[:2], (CELLS, NEAR))

    def test_very_many_steps(self):
        self.no(moved.is_steps, TABLE, ROW, tuple((place,) for place in range(100000)))
        self.no(moved.is_steps, TABLE, ROW, (tuple(range(100000)),))
        self.no(moved.is_steps, TABLE, ROW, STEPS[:2] + ((HUGE,),))
        self.no(moved.is_steps, TABLE, ROW, ((),) * 100000)
