"""Runs that are compared with models behind each deed."""

import random

from ownchute.places import is_right
from ownchute.runs import Run
from tests.drawn import drawn_deed, shown
from tests.model import Model


def done(run, deed, chute):
    """Do a deed by the call that is made for it; return what this returns."""
    if deed[0] == "come":
        return run.come(chute, sight=deed[1])
    if deed[0] == "pass":
        return run.pass_on(deed[1], sight=deed[2])
    return run.wait()


def told(run):
    """Return all that a run tells."""
    return (run.belts(), run.queues(), run.swap, run.busy, run.place(), run.flow(), list(run.sendings()),
            run.astray(), run.history(), len(run), repr(run))


def told_by(model, history):
    """Return all that a run with the flow and the chutes of the model has to tell."""
    return (model.belts, model.shown_queues(), model.swap, False, model.place(), model.flow, model.sent,
            model.astray(), history, model.came, f"Run({model.came} parcels)")


def assert_told(case, run, model, history):
    case.assertEqual(shown(told(run)), shown(told_by(model, history)))
    case.assertIs(is_right(run.plant, run.place()), model.is_right())


def played(case, plant, seed, many, source=None):
    """Play a drawn flow with drawn chutes, checking a run behind each deed; return the run and the model."""
    source = source or random.Random(seed)
    run, model = Run(plant), Model(plant)
    assert_told(case, run, model, (0, 0))
    for turn in range(many):
        deed, chute = drawn_deed(source, model), source.randint(1, 9)
        came, sent = model.came, len(model.sent)
        model.do(deed, chute)
        expected = came if deed[0] == "come" else model.sent[-1][2] if len(model.sent) > sent else None
        case.assertEqual(shown(done(run, deed, chute)), shown(expected))
        assert_told(case, run, model, (turn + 1, 0))
    return run, model


def run_of(plant, deeds, chutes=()):
    """Return a run with the deeds, each a step; the parcels have the chutes, and 1 behind these."""
    run, chutes = Run(plant), list(chutes)
    for deed in deeds:
        done(run, deed, chutes.pop(0) if deed[0] == "come" and chutes else 1)
    return run
