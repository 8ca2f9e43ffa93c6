"""What holds for all modules that compile, tried with random ones."""

import unittest

from helper import outcome, seeded
from inorder import is_in_order
from randommodules import RandomModules
from samples import SAMPLES
from wherewritten.arrows import all_fixed, group
from wherewritten.artifacts import read_artifact, write_artifact
from wherewritten.calling import called_otherwise, compile_all
from wherewritten.coding import code_of, is_sound
from wherewritten.errors import WhereError
from wherewritten.linking import program, run
from wherewritten.looks import loose
from wherewritten.reading import spelled
from wherewritten.table import CORE_SCOPE, Table


def told_of(texts):
    """The programs of modules, and what they give."""
    artifacts = {made.artifact()[1]: made.artifact() for made in compile_all(texts)}
    return {name: (program(artifacts, name), outcome(run, artifacts, name, 2000)) for name in texts}


class TestRandomModules(unittest.TestCase):
    def groups(self, rng, seeds):
        """Modules that compile, as texts and as what compiling gives."""
        for _ in range(seeds):
            texts = RandomModules(rng).modules()
            try:
                yield texts, compile_all(texts)
            except WhereError:
                continue

    def test_they_hang_together(self):
        count = 0
        for _, made in self.groups(seeded(21), 3000):
            artifacts = {compiled.artifact()[1]: compiled.artifact() for compiled in made}
            for name, artifact in artifacts.items():
                others = {other: artifacts[other] for other in artifacts if other != name}
                self.assertTrue(is_in_order(artifact, others))
                self.assertEqual(read_artifact(write_artifact(artifact)), artifact)
                for item in artifact[5]:
                    self.assertTrue(is_sound(code_of(item[3])))
                count += 1
        self.assertGreater(count, 200)

    def test_what_was_bound_is_bound_so(self):
        for texts, made in self.groups(seeded(22), 1500):
            for compiled in made:
                self.check_tales(texts, compiled)

    def check_tales(self, texts, compiled):
        table = Table()
        for row in compiled.table():
            table.put_row(row)
        for module in texts:
            for place, (start, end) in spelled(texts[module])[0].items():
                for phase, scopes, kind, target in compiled.tale((module, place)):
                    told = table.resolved(phase, ("id", texts[module][start:end], (module, place), scopes))
                    if kind == "bound":
                        self.assertEqual(told[1], target)
                        self.assertIn(CORE_SCOPE, scopes)
                    else:
                        self.assertIsNone(target)
                        self.assertFalse(told[1] is not None and told[1][0] in ("word", "macro", "own"))

    def test_names_are_not_seen(self):
        rng = seeded(23)
        count = 0
        for texts, made in self.groups(rng, 400):
            before, fixed, seen = told_of(texts), all_fixed(made), set()
            free = loose(made)
            for module in texts:
                for place in spelled(texts[module])[0]:
                    if (module, place) in seen:
                        continue
                    members = group(made, (module, place))
                    seen.update(members)
                    if any(member in fixed for member in members):
                        continue
                    told = called_otherwise(texts, (module, place), "zz")
                    self.assertEqual(told_of(told), before, (texts, module, place))
                    self.assertEqual(loose(compile_all(told)), free)
                    count += 1
        self.assertGreater(count, 300)

    def test_compiling_again_gives_the_same(self):
        for texts, made in self.groups(seeded(24), 300):
            for one, other in zip(made, compile_all(dict(reversed(texts.items())))):
                for name in ("artifact", "ready", "steps", "arrows", "links", "fixed", "begun", "scopes", "table"):
                    self.assertEqual(getattr(one, name)(), getattr(other, name)())


class TestSamplesInOrder(unittest.TestCase):
    def test_artifacts(self):
        artifacts = {compiled.artifact()[1]: compiled.artifact() for compiled in compile_all(SAMPLES)}
        for name, artifact in artifacts.items():
            self.assertTrue(is_in_order(artifact, {other: artifacts[other] for other in artifacts if other != name}))


if __name__ == "__main__":
    unittest.main()
