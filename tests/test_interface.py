"""The names and arguments of the interface, and where they are to be had."""
import importlib
import inspect
import unittest

FUNCTIONS = {
    "stair": {"worth": ["step"], "weight": ["heap"], "is_still": ["heap"]},
    "moves": {"fits": ["heap", "move"], "moves": ["heap"], "done": ["heap", "move"], "carried": ["heap", "picks"]},
    "rows": {
        "row_of": ["number"], "before": ["one", "other"], "plus": ["one", "other"], "minus": ["one", "other"],
        "woven": ["one", "other"],
    },
    "texts": {
        "shown": ["number"], "written": ["numbers"], "read": ["text"], "in_step": ["text", "place"], "Reader": [],
    },
}
DEFAULTS = {"carried": {"picks": None}}


class Interface(unittest.TestCase):
    def test_names_and_arguments(self):
        for module, functions in FUNCTIONS.items():
            found = importlib.import_module("shellstair." + module)
            for name, arguments in functions.items():
                with self.subTest(module=module, name=name):
                    parameters = inspect.signature(getattr(found, name)).parameters
                    self.assertEqual(list(parameters), arguments)
                    defaults = {
                        key: parameter.default
                        for key, parameter in parameters.items()
                        if parameter.default is not parameter.empty
                    }
                    self.assertEqual(defaults, DEFAULTS.get(name, {}))

    def test_methods_of_a_reader(self):
        from shellstair.texts import Reader
        self.assertTrue(inspect.isclass(Reader))
        self.assertEqual(list(inspect.signature(Reader.feed).parameters)[1:], ["piece"])
        self.assertEqual(list(inspect.signature(Reader.left).parameters)[1:], [])

    def test_arguments_by_their_names(self):
        from shellstair.moves import carried
        from shellstair.rows import minus
        from shellstair.texts import in_step
        self.assertEqual(carried(heap=[2, 1], picks=[1])[1], [("part", 0), ("part", 1)])
        self.assertEqual(minus(one=[0, 1], other=[1]), [1])
        self.assertEqual(in_step(text=".oo", place=0), 3)


if __name__ == "__main__":
    unittest.main()
