import unittest

from wherewritten import errors


class TestErrors(unittest.TestCase):
    def test_each_class_derives_directly_from_the_base(self):
        names = ["ReadError", "RulesError", "RunError", "ExpandError", "ModuleError", "StoreError"]
        self.assertEqual(errors.WhereError.__bases__, (ValueError,))
        for name in names:
            with self.subTest(name):
                self.assertEqual(getattr(errors, name).__bases__, (errors.WhereError,))

    def test_fields(self):
        made = [
            (errors.ReadError(7), {"at": 7}),
            (errors.RulesError("form", ("m", 1)), {"code": "form", "occurrence": ("m", 1)}),
            (errors.RunError("fuel", None), {"code": "fuel", "occurrence": None}),
            (errors.ExpandError("late", ("m", 2)), {"code": "late", "occurrence": ("m", 2)}),
            (errors.ModuleError("cycle", ("a", "b")), {"code": "cycle", "names": ("a", "b")}),
            (errors.StoreError("absent"), {"code": "absent"}),
        ]
        for error, fields in made:
            with self.subTest(type(error).__name__):
                self.assertEqual(vars(error), fields)
                self.assertTrue(str(error))


if __name__ == "__main__":
    unittest.main()
