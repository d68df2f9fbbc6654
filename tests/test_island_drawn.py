"""Islands under deeds as if drawn by lot, against a slow island."""

import unittest

from shoretold import errors
from shoretold.island import Island
from tests import slow


class Drawn(unittest.TestCase):
    def test_each_deed_and_each_refusal(self):
        done, refused = {}, {}
        for seed in range(24):
            self.run_drawn(seed, 120, slow.ANY_DEEDS, done, refused)
        for seed in range(100, 114):
            self.run_drawn(seed, 240, slow.BUSY_DEEDS, done, refused)
        self.assertEqual(sorted(done), sorted(["dig", "fill", "land", "walk", "go", "leave", "fence", "unfence", "call",
                                               "close", "turn"]))
        self.assertGreater(min(done.values()), 20)
        for name in ("BadBank", "BadName", "Taken", "Full", "NoPlace", "Barred", "NoDitch", "NoWalker", "Tired", "NotBeside",
                     "NoPlot", "Bidden", "NoBody", "NoGround", "NoMoot"):
            self.assertGreater(refused.get(name, 0), 5, name)

    def run_drawn(self, seed, many, words, done, refused):
        island, model, drawer = Island(), slow.SlowDeeds(), slow.Drawer(seed, words)
        for time in range(many):
            self.maybe_back_and_forth(island, model, drawer)
            deed = drawer.deed(model.now())
            self.one_deed(island, model, deed, done, refused)
            self.assertEqual(island.deeds(), model.done)
            self.assertEqual(slow.asked(island), model.now().asked(), (seed, time, model.done, deed))

    def one_deed(self, island, model, deed, done, refused):
        name = model.do(deed)
        if name is None:
            self.assertIsNone(island.do(deed))
            done[deed[0]] = done.get(deed[0], 0) + 1
            return
        refused[name] = refused.get(name, 0) + 1
        with self.assertRaises(getattr(errors, name), msg=(model.done, deed)) as caught:
            island.do(deed)
        fields = {"Barred": ("three",), "NotBeside": ("at",)}.get(name, ())
        for field in fields:
            self.assertEqual(getattr(caught.exception, field), model.now().fields[field], (model.done, deed))

    def maybe_back_and_forth(self, island, model, drawer):
        for time in range(drawer.one_of((0, 0, 0, 0, 1, 3))):
            if drawer.below(5) < 3 and model.done:
                self.assertEqual(island.undo(), model.undo())
            elif model.undone:
                self.assertEqual(island.redo(), model.redo())
            self.assertEqual(slow.asked(island), model.now().asked())
        for ask, left in ((island.undo, model.done), (island.redo, model.undone)):
            if not left:
                with self.assertRaises(errors.NothingLeft):
                    ask()


if __name__ == "__main__":
    unittest.main()
