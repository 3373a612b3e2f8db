"""[70] [71] Watches held against a plain model: a report, the reports before it, and answers found a second way."""

import unittest
from random import Random

from rootalarms.errors import (
    ComponentError, LimitError, NothingDone, ReportError, Unexplained, WordError,
)
from rootalarms.objects import Net
from rootalarms.watches import Careful, CarefulSmall, Small, Watch

from tests import second
from tests.values import NETS, WRONG_COMPONENTS, WRONG_REPORTS, WRONG_WORDS, some_nets, some_reports

WORDS = ("alarm", "quiet", "unseen")
KINDS = (Watch, Careful, Small, CarefulSmall)


class Model:
    """What a watch is to be: each action returns the error that it has to raise, or None, and then it is done."""

    def __init__(self, net, report, careful, most):
        self.net, self.report, self.careful, self.most = net, report, careful, most
        self.past = []

    def refused(self, report):
        many = len(second.watched_in(report))
        if self.most is not None and many > self.most:
            return ("LimitError", many, self.most)
        found = second.verdict(self.net, report) if self.careful else ("broken",)
        if found[0] == "none":
            return ("Unexplained", found[1], found[2])
        return None

    def change(self, report):
        self.past.append(self.report)
        self.report = report

    def take(self, report):
        why = self.refused(report)
        if not why:
            self.change(report)
        return why

    def is_component(self, thing):
        return type(thing) is int and 0 <= thing < len(self.net)

    def replaced(self, component, word):
        return tuple(word if c == component else old for c, old in enumerate(self.report))

    def see(self, component, word):
        if not self.is_component(component):
            return ("ComponentError",)
        if type(word) is not str or word not in WORDS:
            return ("WordError",)
        return self.take(self.replaced(component, word))

    def forget(self, component):
        if not self.is_component(component):
            return ("ComponentError",)
        self.change(self.replaced(component, "unseen"))
        return None

    def assign(self, report):
        fits = type(report) is tuple and len(report) == len(self.net)
        if not fits or not all(type(word) is str and word in WORDS for word in report):
            return ("ReportError",)
        return self.take(report)

    def undo(self):
        if not self.past:
            return ("NothingDone",)
        self.report = self.past.pop()
        return None


def done(action, *arguments):
    """What an action of a watch raised, as the model tells it, or None."""
    try:
        found = action(*arguments)
    except LimitError as error:
        return ("LimitError", error.amount, error.limit)
    except Unexplained as error:
        return ("Unexplained", error.alarm, error.quiets)
    except (ComponentError, NothingDone, ReportError, WordError) as error:
        return (type(error).__name__,)
    assert found is None, found
    return None


class Left(Exception):
    """What leaves a block."""


class ModelTest(unittest.TestCase):
    def same(self, watch, model):
        net, report = model.net, model.report
        self.assertEqual(repr(watch.report), repr(report))
        suspects = second.candidates(net, report)
        self.assertEqual(watch.candidates, suspects)
        self.assertIs(watch.explained, bool(second.explanations(net, report)))
        self.assertEqual(watch.fewest, second.fewest(net, report))
        self.assertEqual(watch.changes, len(model.past))
        self.assertEqual(len(watch), len(second.watched_in(report)))
        self.assertEqual([watch[c] for c in range(len(net))], list(report))
        self.assertEqual([c for c in range(-1, 9) if c in watch], list(suspects))
        many = (len(second.watched_in(report)), len(suspects))
        self.assertEqual(repr(watch), "{}({} watched, {} candidates)".format(type(watch).__name__, *many))
        self.assertIs(watch == Watch(Net(*net), report), True)

    def step(self, dice, watch, model):
        """One drawn action, for both."""
        wrong = dice.random() < 0.15
        component = dice.choice(WRONG_COMPONENTS) if wrong and dice.random() < 0.5 else dice.randrange(len(model.net))
        word = dice.choice(WRONG_WORDS) if wrong else dice.choice(WORDS)
        kind = dice.randrange(12)
        if kind < 4:
            return done(watch.see, component, word), model.see(component, word)
        if kind < 6:
            return done(watch, component, word), model.see(component, word)
        if kind < 7:
            return done(watch.forget, component), model.forget(component)
        if kind < 10:
            report = dice.choice(WRONG_REPORTS) if wrong else dice.choice(some_reports(dice.random(), model.net, 4))
            if kind == 9:
                return done(watch.assign_report, report), model.assign(report)
            return done(setattr, watch, "report", report), model.assign(report)
        return done(watch.undo), model.undo()

    def run_steps(self, dice, watch, model, deep):
        """Some drawn actions, some of them in blocks, of which some are left by an exception."""
        for _ in range(dice.randrange(2, 12)):
            if deep < 3 and dice.random() < 0.2:
                before, past, fails = model.report, list(model.past), dice.random() < 0.5
                try:
                    with watch.trying():
                        self.run_steps(dice, watch, model, deep + 1)
                        if fails:
                            raise Left
                    self.assertFalse(fails)
                except Left:
                    self.assertTrue(fails)
                    model.report, model.past = before, past
            else:
                found, wanted = self.step(dice, watch, model)
                self.assertEqual(found, wanted)
            self.same(watch, model)

    def test_drawn_sequences(self):
        dice = Random(70)
        nets = list(NETS) + [net for many in range(1, 9) for net in some_nets(many + 70, many, 5)]
        for turn in range(600):
            net = dice.choice(nets)
            kind = KINDS[turn % 4]
            most = dice.choice((0, 1, 2, 3, 4, 8))
            report = dice.choice([("unseen",) * len(net)] + some_reports(turn, net, 6))
            arguments = (Net(*net), report) + ((most,) if kind in (Small, CarefulSmall) else ())
            model = Model(net, report, kind in (Careful, CarefulSmall), most if len(arguments) == 3 else None)
            wanted = model.refused(report)
            if wanted:
                self.assertEqual(done(kind, *arguments), wanted)
                continue
            watch = kind(*arguments)
            self.same(watch, model)
            self.run_steps(dice, watch, model, 0)

    def test_long_histories(self):
        dice = Random(71)
        for kind in KINDS:
            watch = kind(Net(*NETS[0]))
            model = Model(NETS[0], watch.report, kind in (Careful, CarefulSmall), getattr(watch, "most", None))
            for _ in range(3000):
                component, word = dice.randrange(5), dice.choice(WORDS)
                self.assertEqual(done(watch.see, component, word), model.see(component, word))
            self.same(watch, model)
            while model.past:
                self.assertEqual(done(watch.undo), model.undo())
                self.assertEqual(watch.report, model.report)
            self.assertEqual(done(watch.undo), ("NothingDone",))


if __name__ == "__main__":
    unittest.main()
