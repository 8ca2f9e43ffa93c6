"""The names of the interface: each one is defined in the file under which it is listed, with its arguments."""

import ast
import unittest
from pathlib import Path

PACKAGE = Path(__file__).resolve().parent.parent / "wherewritten"

FUNCTIONS = {
    "reading": ["tokens(text)", "read(text)", "is_name(text)", "offsets(text)"],
    "showing": ["show(datum)", "show_text(forms)", "count_data(datum)", "deepest(datum)"],
    "syntax": ["syntax_of(module, datum, scopes)", "datum_of(syntax)", "added(syntax, scope)", "removed(syntax, scope)",
               "flipped(syntax, scope)", "identifiers(syntax)", "size(syntax)", "depth(syntax)", "is_set(value)"],
    "resolving": ["resolve(table, phase, identifier)", "same_binder(first, second)", "same_reference(table, phase, first, second)",
                  "judge_outcome(table, phase, identifier, told)"],
    "evaluating": ["evaluate(term, fuel)"],
    "terms": ["show_term(term)", "show_plain(value)", "primitives()"],
    "compiling": ["compile_module(name, text, artifacts)", "expanded(text)"],
    "linking": ["order(artifacts, main)", "program(artifacts, main)", "run(artifacts, main, fuel)"],
    "artifacts": ["write_artifact(artifact)", "read_artifact(text)", "interface(artifact, shift)"],
    "arrows": ["all_arrows(made)", "all_links(made)", "all_fixed(made)", "group(made, occurrence)"],
    "calling": ["called_otherwise(texts, occurrence, name)", "compile_all(texts)"],
    "looks": ["growths(compiled)", "copies(compiled)", "loose(made)", "reach(artifacts, main)"],
    "coding": ["code_of(term)", "is_sound(code)"],
    "running": ["run_code(code, fuel)", "run_linked(artifacts, main, fuel)", "deepest_run(code, fuel)"],
    "layout": ["laid_out(text, width)", "remarks(text)"],
    "counts": ["miscounts(artifact)"],
    "library": ["library()"],
    "written": ["written_out(artifacts, main)"],
    "pruning": ["needed(artifacts, main)", "pruned(artifacts, main)", "run_pruned(artifacts, main, fuel)"],
    "simplifying": ["simplified(term)", "simplified_artifact(artifact)"],
    "checking": ["fault(value, artifacts)", "is_term(value)", "is_syntax_value(value)"],
    "visible": ["visible(compiled, occurrence)"],
}

CLASSES = {
    "rules": {"Rules": ["__init__(self, form)", "apply(self, use, same)", "clause_of(self, use, same)", "variables(self, index)",
                        "inserted(self, index)"]},
    "compiling": {"Compiled": ["artifact(self)", "ready(self)", "steps(self)", "arrows(self)", "links(self)", "fixed(self)",
                               "begun(self)", "scopes(self)", "table(self)", "tale(self, occurrence)"]},
    "store": {"Store": ["__init__(self)", "put(self, name, text)", "drop(self, name)", "names(self)", "text(self, name)",
                        "build(self, main)", "artifact(self, name)", "compiled(self, name)", "program(self, main)",
                        "run(self, main, fuel)"]},
    "desk": {"Desk": ["__init__(self)", "answer(self, command)", "store(self)"]},
}


def shapes_in(body):
    """The functions that are defined in a row of statements, each with its arguments."""
    return [f"{node.name}({', '.join(arg.arg for arg in node.args.args)})" for node in body if isinstance(node, ast.FunctionDef)]


class TestInterface(unittest.TestCase):
    def body_of(self, name):
        return ast.parse((PACKAGE / f"{name}.py").read_text()).body

    def test_functions(self):
        for name, shapes in FUNCTIONS.items():
            for shape in shapes:
                self.assertIn(shape, shapes_in(self.body_of(name)), name)

    def test_classes(self):
        for name, classes in CLASSES.items():
            defined = {node.name: node for node in self.body_of(name) if isinstance(node, ast.ClassDef)}
            for known, shapes in classes.items():
                for shape in shapes:
                    self.assertIn(shape, shapes_in(defined[known].body), known)


if __name__ == "__main__":
    unittest.main()
