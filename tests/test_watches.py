"""[70] [71] Watches."""

import unittest
from copy import deepcopy

from rootalarms.errors import (
    ComponentError, LimitError, NetError, NothingDone, NumberError, ReportError, Unexplained, WordError,
)
from rootalarms.objects import Net
from rootalarms.watches import Careful, CarefulSmall, Small, Watch

from tests.values import (
    NETS, ODD, OVERVIEW, ROW, WRONG_COMPONENTS, WRONG_NETS, WRONG_NUMBERS, WRONG_REPORTS, WRONG_WORDS,
)

KINDS = (Watch, Careful, Small, CarefulSmall)
LIMITED = (Small, CarefulSmall)
PAIR = Net((1,), ())
FIVE = Net(*OVERVIEW)
# 1 alarms, but 0, which depends on it, is quiet.
NONE = ("quiet", "alarm")
# What only a Watch and a Small take: 2 alarms, but 0, which depends on it, is quiet.
FIVE_NONE = ("quiet", "unseen", "alarm", "unseen", "unseen")


def state(watch):
    """All that a watch tells of itself."""
    words = [watch[c] for c in range(len(watch.net))]
    inside = [c in watch for c in range(len(watch.net))]
    return (watch.net, watch.report, watch.candidates, watch.explained, watch.fewest, watch.changes,
            words, len(watch), inside, repr(watch), getattr(watch, "most", None))


class WatchCase(unittest.TestCase):
    def raises(self, error, watch, action, *arguments):
        """A call raises just this error and changes nothing; the error is returned."""
        before = state(watch)
        with self.assertRaises(error) as caught:
            action(*arguments)
        self.assertIs(type(caught.exception), error)
        self.assertEqual(state(watch), before)
        return caught.exception


class MadeTest(WatchCase):
    def test_at_first_all_are_unseen(self):
        for kind in KINDS:
            for needs in NETS:
                net = Net(*needs)
                watch = kind(net)
                everything = tuple(range(len(needs)))
                self.assertIs(watch.net, net)
                self.assertEqual((watch.report, watch.changes, len(watch)), (("unseen",) * len(needs), 0, 0))
                self.assertEqual((watch.candidates, watch.fewest), (everything, ()))
                self.assertIs(watch.explained, True)
                self.assertEqual(kind(net, None), watch)

    def test_with_a_report(self):
        report = ("quiet", "alarm", "unseen", "unseen", "unseen")
        for kind in KINDS:
            watch = kind(FIVE, report)
            self.assertEqual((watch.report, watch.changes, len(watch)), (report, 0, 2))
            self.assertEqual((watch.candidates, watch.fewest), ((1, 3, 4), (1,)))

    def test_wrong_nets(self):
        for kind in KINDS:
            for thing in WRONG_NETS + ODD + (OVERVIEW, ((1,), ())):
                if not isinstance(thing, Net):
                    with self.subTest(kind=kind, thing=repr(thing)[:80]), self.assertRaises(NetError):
                        kind(thing)

    def test_wrong_reports(self):
        for kind in KINDS:
            for thing in WRONG_REPORTS:
                if thing is not None:
                    with self.subTest(kind=kind, thing=repr(thing)[:80]), self.assertRaises(ReportError):
                        kind(PAIR, thing)

    def test_wrong_numbers(self):
        for kind in LIMITED:
            for thing in WRONG_NUMBERS:
                with self.subTest(kind=kind, thing=repr(thing)[:80]), self.assertRaises(NumberError):
                    kind(PAIR, None, thing)
            for most in range(9):
                self.assertEqual(kind(PAIR, None, most).most, most)
            self.assertEqual((kind(PAIR).most, kind(PAIR, most=2).most), (4, 2))

    def test_several_wrong_arguments(self):
        three = ("quiet", "alarm", "alarm")
        for net, report, most, error in (
            (None, NONE, 1, NetError), (None, None, None, NetError), (((1,), ()), three, 9, NetError),
            (PAIR, three, True, ReportError), (PAIR, list(NONE), 0, ReportError), (PAIR, (), -1, ReportError),
            (PAIR, NONE, 9, NumberError), (PAIR, NONE, True, NumberError), (PAIR, NONE, None, NumberError),
            (PAIR, NONE, 1, LimitError), (PAIR, NONE, 0, LimitError), (PAIR, ("alarm", "alarm"), 1, LimitError),
        ):
            for kind in LIMITED:
                with self.subTest(kind=kind, report=report, most=most), self.assertRaises(error) as caught:
                    kind(net, report, most)
                self.assertIs(type(caught.exception), error)
        for kind in (Watch, Careful):
            for net, report, error in ((None, NONE, NetError), (None, 1, NetError), (PAIR, three, ReportError)):
                with self.assertRaises(error):
                    kind(net, report)

    def test_unexplained_reports(self):
        for kind in (Careful, CarefulSmall):
            with self.assertRaises(Unexplained) as caught:
                kind(FIVE, FIVE_NONE)
            self.assertEqual((caught.exception.alarm, caught.exception.quiets), (2, (0,)))
        for kind in (Watch, Small):
            watch = kind(FIVE, FIVE_NONE)
            self.assertIs(watch.explained, False)
            self.assertIsNone(watch.fewest)
            self.assertEqual((watch.candidates, len(watch)), ((1, 3, 4), 2))

    def test_too_many_watched(self):
        for kind in LIMITED:
            for most in range(9):
                for many in range(9):
                    report = ("quiet",) * many + ("unseen",) * (8 - many)
                    if many <= most:
                        self.assertEqual(len(kind(Net(*ROW), report, most)), many)
                        continue
                    with self.assertRaises(LimitError) as caught:
                        kind(Net(*ROW), report, most)
                    self.assertEqual((caught.exception.amount, caught.exception.limit), (many, most))

    def test_bases(self):
        self.assertTrue(issubclass(Careful, Watch) and issubclass(Small, Watch))
        self.assertTrue(issubclass(CarefulSmall, Careful) and issubclass(CarefulSmall, Small))
        self.assertFalse(issubclass(Careful, Small) or issubclass(Small, Careful))

    def test_only_the_report_can_be_assigned(self):
        for kind in KINDS:
            watch = kind(PAIR)
            for name in ("net", "candidates", "explained", "fewest", "changes") + ("most",) * (kind in LIMITED):
                with self.assertRaises(AttributeError):
                    setattr(watch, name, getattr(watch, name))


class ChangeTest(WatchCase):
    def test_see_and_the_call(self):
        for kind in KINDS:
            watch = kind(FIVE)
            self.assertIsNone(watch.see(0, "quiet"))
            self.assertIsNone(watch(1, "alarm"))
            self.assertEqual(watch.report, ("quiet", "alarm", "unseen", "unseen", "unseen"))
            self.assertEqual((len(watch), watch.changes, watch.candidates), (2, 2, (1, 3, 4)))
            watch.see(0, "unseen")
            self.assertEqual(watch.report, ("unseen", "alarm", "unseen", "unseen", "unseen"))
            self.assertEqual((len(watch), watch.changes), (1, 3))

    def test_forget(self):
        for kind in KINDS:
            watch = kind(FIVE, ("quiet", "alarm", "unseen", "unseen", "unseen"))
            self.assertIsNone(watch.forget(0))
            self.assertEqual(watch.report, ("unseen", "alarm", "unseen", "unseen", "unseen"))
            watch.forget(0)
            watch.forget(4)
            self.assertEqual((len(watch), watch.changes), (1, 3))

    def test_assignments(self):
        report = ("quiet", "alarm", "unseen", "unseen", "unseen")
        for kind in KINDS:
            watch = kind(FIVE)
            self.assertIsNone(watch.assign_report(report))
            self.assertEqual((watch.report, watch.changes), (report, 1))
            watch.report = ("unseen",) * 5
            self.assertEqual((watch.report, watch.changes), (("unseen",) * 5, 2))
            watch.report = watch.report
            self.assertEqual(watch.changes, 3)

    def test_wrong_components(self):
        for kind in KINDS:
            watch = kind(PAIR, ("alarm", "unseen"))
            watch.see(0, "quiet")
            for thing in WRONG_COMPONENTS:
                with self.subTest(kind=kind, thing=repr(thing)[:80]):
                    self.raises(ComponentError, watch, watch.see, thing, "alarm")
                    self.raises(ComponentError, watch, watch, thing, "quiet")
                    self.raises(ComponentError, watch, watch.forget, thing)
                    self.raises(ComponentError, watch, watch.__getitem__, thing)

    def test_wrong_words(self):
        for kind in KINDS:
            watch = kind(PAIR, ("alarm", "unseen"))
            for thing in WRONG_WORDS:
                with self.subTest(kind=kind, thing=repr(thing)[:80]):
                    self.raises(WordError, watch, watch.see, 0, thing)
                    self.raises(WordError, watch, watch, 1, thing)
                    self.raises(ComponentError, watch, watch.see, 2, thing)
                    self.raises(ComponentError, watch, watch, True, thing)

    def test_wrong_reports(self):
        for kind in KINDS:
            watch = kind(PAIR, ("alarm", "unseen"))
            for thing in WRONG_REPORTS:
                with self.subTest(kind=kind, thing=repr(thing)[:80]):
                    self.raises(ReportError, watch, watch.assign_report, thing)
                    self.raises(ReportError, watch, setattr, watch, "report", thing)

    def test_undo(self):
        for kind in KINDS:
            watch = kind(FIVE, ("quiet",) + ("unseen",) * 4)
            reports = [watch.report]
            for step in (lambda: watch.see(1, "alarm"), lambda: watch(1, "alarm"), lambda: watch.forget(4),
                         lambda: watch.assign_report(("unseen",) * 5), lambda: watch.forget(0)):
                step()
                reports.append(watch.report)
            watch.report = watch.report
            for wanted in reports[::-1]:
                self.assertIsNone(watch.undo())
                self.assertEqual(watch.report, wanted)
            self.assertEqual(watch.changes, 0)
            self.raises(NothingDone, watch, watch.undo)

    def test_nothing_to_undo(self):
        for kind in KINDS:
            watch = kind(PAIR)
            self.raises(NothingDone, watch, watch.undo)
            watch.see(0, "quiet")
            watch.undo()
            self.raises(NothingDone, watch, watch.undo)

    def test_what_is_done_after_an_undo(self):
        watch = Watch(PAIR)
        watch.see(0, "alarm")
        watch.undo()
        watch.see(1, "quiet")
        self.assertEqual((watch.report, watch.changes), (("unseen", "quiet"), 1))
        watch.undo()
        self.assertEqual((watch.report, watch.changes), (("unseen", "unseen"), 0))


class TryingTest(WatchCase):
    def test_without_an_exception(self):
        for kind in KINDS:
            watch = kind(FIVE)
            with watch.trying():
                watch.see(0, "quiet")
                watch.forget(1)
            self.assertEqual((watch[0], watch.changes), ("quiet", 2))

    def test_with_an_exception(self):
        for kind in KINDS:
            for error in (KeyError, ComponentError, KeyboardInterrupt, GeneratorExit, StopIteration):
                watch = kind(FIVE, ("unseen", "alarm") + ("unseen",) * 3)
                watch.see(0, "quiet")
                watch.forget(2)
                before = state(watch)
                with self.assertRaises(error):
                    with watch.trying():
                        watch.undo()
                        watch.undo()
                        watch.report = ("alarm",) * 2 + ("unseen",) * 3
                        watch(0, "quiet")
                        raise error("x")
                self.assertEqual(state(watch), before)
                watch.undo()
                watch.undo()
                self.assertEqual(watch.report, ("unseen", "alarm") + ("unseen",) * 3)
                self.raises(NothingDone, watch, watch.undo)

    def test_an_exception_of_the_watch_itself(self):
        watch = CarefulSmall(FIVE, ("quiet",) + ("unseen",) * 4)
        before = state(watch)
        with self.assertRaises(Unexplained):
            with watch.trying():
                watch.see(1, "alarm")
                watch.see(2, "alarm")
        self.assertEqual(state(watch), before)

    def test_an_exception_that_stays_in_the_block(self):
        watch = Watch(FIVE)
        with watch.trying():
            watch.see(0, "quiet")
            try:
                watch.see(9, "quiet")
            except ComponentError:
                pass
        self.assertEqual((watch[0], watch.changes), ("quiet", 1))

    def test_when_the_block_begins(self):
        watch = Watch(PAIR)
        block = watch.trying()
        watch.see(0, "alarm")
        with self.assertRaises(KeyError):
            with block:
                watch.see(1, "alarm")
                raise KeyError
        self.assertEqual((watch.report, watch.changes), (("alarm", "unseen"), 1))

    def test_one_block_after_another_and_within_another(self):
        watch = Watch(FIVE)
        block = watch.trying()
        with block:
            watch.see(0, "quiet")
        with self.assertRaises(KeyError):
            with block:
                watch.see(1, "alarm")
                with block:
                    watch.see(2, "quiet")
                with self.assertRaises(IndexError):
                    with block:
                        watch.undo()
                        watch.see(3, "quiet")
                        raise IndexError
                self.assertEqual((watch.report[:4], watch.changes), (("quiet", "alarm", "quiet", "unseen"), 3))
                with watch.trying():
                    watch.undo()
                raise KeyError
        self.assertEqual((watch.report, watch.changes), (("quiet",) + ("unseen",) * 4, 1))

    def test_blocks_left_by_return_and_break(self):
        watch = Watch(PAIR)

        def leave():
            with watch.trying():
                watch.see(0, "alarm")
                return 5

        self.assertEqual(leave(), 5)
        for component in (0, 1):
            with watch.trying():
                watch.see(component, "quiet")
                break
        self.assertEqual((watch.report, watch.changes), (("quiet", "unseen"), 2))


class CarefulTest(WatchCase):
    """[71]"""

    def test_unexplained(self):
        for kind in (Careful, CarefulSmall):
            watch = kind(FIVE, ("quiet",) + ("unseen",) * 4)
            for action, arguments in (
                (watch.see, (2, "alarm")), (watch, (2, "alarm")), (watch.assign_report, (FIVE_NONE,)),
                (setattr, (watch, "report", FIVE_NONE)),
            ):
                found = self.raises(Unexplained, watch, action, *arguments)
                self.assertEqual((found.alarm, found.quiets), (2, (0,)))

    def test_the_fields_are_those_of_the_verdict(self):
        net = Net((1, 2), (), (), (1,), (0, 2))
        watch = Careful(net, ("unseen", "quiet", "unseen", "quiet", "quiet"))
        found = self.raises(Unexplained, watch, watch.see, 0, "alarm")
        self.assertEqual((found.alarm, found.quiets), (0, (4, 1, 4)))

    def test_forget_and_undo_never_raise_it(self):
        watch = Careful(FIVE, ("quiet", "alarm", "unseen", "quiet", "unseen"))
        watch.forget(1)
        watch.forget(0)
        watch.see(2, "alarm")
        for _ in range(3):
            watch.undo()
        self.assertEqual(watch.report, ("quiet", "alarm", "unseen", "quiet", "unseen"))

    def test_the_other_classes_take_it(self):
        for kind in (Watch, Small):
            watch = kind(FIVE, ("quiet",) + ("unseen",) * 4)
            watch.see(2, "alarm")
            self.assertIs(watch.explained, False)


class SmallTest(WatchCase):
    """[71]"""

    def test_too_many(self):
        for kind in LIMITED:
            watch = kind(FIVE, ("quiet", "unseen", "quiet", "unseen", "unseen"), 2)
            for action, arguments, amount in (
                (watch.see, (1, "alarm"), 3), (watch, (3, "quiet"), 3), (watch.assign_report, (("quiet",) * 5,), 5),
                (setattr, (watch, "report", ("alarm",) * 3 + ("unseen",) * 2), 3),
            ):
                found = self.raises(LimitError, watch, action, *arguments)
                self.assertEqual((found.amount, found.limit), (amount, 2))
            watch.see(2, "quiet")
            watch.see(1, "unseen")
            watch.forget(0)
            watch.see(4, "quiet")
            self.assertEqual((len(watch), watch.changes), (2, 4))

    def test_none_and_eight(self):
        for kind in LIMITED:
            watch = kind(Net(*ROW), None, 0)
            found = self.raises(LimitError, watch, watch.see, 7, "quiet")
            self.assertEqual((found.amount, found.limit), (1, 0))
            watch.see(7, "unseen")
            watch.forget(7)
            watch = kind(Net(*ROW), ("alarm",) * 8, 8)
            self.assertEqual((len(watch), watch.most), (8, 8))

    def test_the_other_classes_take_more(self):
        for kind in (Watch, Careful):
            self.assertEqual(len(kind(Net(*ROW), ("alarm",) * 8)), 8)

    def test_the_limit_comes_ahead_of_the_explanation_and_behind_the_others(self):
        watch = CarefulSmall(FIVE, ("quiet",) + ("unseen",) * 4, 1)
        self.raises(LimitError, watch, watch.see, 2, "alarm")
        self.raises(LimitError, watch, watch.assign_report, FIVE_NONE)
        self.raises(WordError, watch, watch.see, 2, "Alarm")
        self.raises(ComponentError, watch, watch.see, 5, "alarm")
        self.raises(ReportError, watch, watch.assign_report, FIVE_NONE[:4])
        watch = CarefulSmall(FIVE, ("quiet",) + ("unseen",) * 4, 2)
        self.raises(Unexplained, watch, watch.see, 2, "alarm")


class AskedTest(WatchCase):
    def test_in(self):
        watch = Watch(Net((2,), (), ()), ("quiet", "alarm", "unseen"))
        self.assertEqual([c for c in range(-1, 5) if c in watch], [1])
        for thing in ODD:
            with self.subTest(thing=repr(thing)[:80]):
                self.assertIs(thing in watch, repr(thing) == "1")
                self.assertIs(thing in Watch(PAIR), repr(thing) in ("0", "1"))

    def test_item(self):
        watch = Watch(PAIR, ("quiet", "unseen"))
        self.assertEqual((watch[0], watch[1]), ("quiet", "unseen"))

    def test_it_is_not_iterated_over(self):
        with self.assertRaises(TypeError):
            list(Watch(PAIR))

    def test_repr(self):
        self.assertEqual(repr(Watch(FIVE, ("quiet", "alarm") + ("unseen",) * 3)), "Watch(2 watched, 3 candidates)")
        self.assertEqual(repr(Careful(Net(()))), "Careful(0 watched, 1 candidates)")
        self.assertEqual(repr(Small(Net(()), ("quiet",))), "Small(1 watched, 0 candidates)")
        self.assertEqual(repr(CarefulSmall(Net(*ROW))), "CarefulSmall(0 watched, 8 candidates)")

    def test_equal(self):
        report = ("alarm", "unseen")
        for one in KINDS:
            for other in KINDS:
                self.assertIs(one(PAIR, report) == other(Net((1,), ()), report), True)
                self.assertIs(one(PAIR, report) != other(Net((1,), ()), report), False)
                self.assertIs(one(PAIR, report) == other(PAIR), False)
                self.assertIs(one(PAIR, report) == other(Net((), ()), report), False)

    def test_neither_changes_nor_most_count(self):
        watch = Small(PAIR, None, 3)
        watch.see(0, "alarm")
        watch.undo()
        watch.forget(0)
        self.assertEqual(watch, Small(PAIR, None, 8))

    def test_equal_to_nothing_else(self):
        for kind in KINDS:
            watch = kind(PAIR, ("alarm", "unseen"))
            for thing in ODD + (PAIR, watch.report, repr(watch), ((1,), ()), (PAIR, watch.report)):
                with self.subTest(kind=kind, thing=repr(thing)[:80]):
                    self.assertIs(watch == thing, False)
                    self.assertIs(thing == watch, False)
                    self.assertIs(watch != thing, True)

    def test_asked_twice(self):
        for kind in KINDS:
            watch = kind(FIVE, ("quiet", "alarm") + ("unseen",) * 3)
            before = state(watch)
            self.assertEqual(state(watch), before)
            self.assertEqual(state(deepcopy(watch)), before)

    def test_two_watches_of_one_net(self):
        one, other = Watch(PAIR), Watch(PAIR)
        one.see(0, "quiet")
        self.assertEqual((other.report, other.changes), (("unseen", "unseen"), 0))


if __name__ == "__main__":
    unittest.main()
