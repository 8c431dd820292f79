"""The names and arguments of the interface stand as the document tells them."""

import importlib
import inspect
import unittest

FUNCTIONS = {
    "numbers": {
        "is_whole": ["thing"], "is_bit": ["thing"], "is_chance": ["thing"], "is_sign": ["thing"],
        "checked_text": ["thing"], "checked_bytes": ["thing"], "gives": ["chance", "bit"],
    },
    "decisions": {"decisions_of": ["text"], "nodes_of": ["text"], "signs_of": ["bits"]},
    "slots": {"slot_of": ["kind"]},
    "looks": {"checked_looks": ["thing"], "context_of": ["look", "signs", "node"]},
    "telling": {
        "checked_learned": ["thing"], "foretold": ["looks", "text", "learned=None"],
        "by_looks": ["looks", "text", "learned=None"], "cost": ["looks", "text", "learned=None"],
    },
    "pressing": {
        "pressed": ["looks", "text", "learned=None"], "read": ["looks", "data", "most=1000", "learned=None"],
        "read_first": ["looks", "data", "most=1000", "learned=None"],
    },
    "stores": {"checked_name": ["thing"]},
    "shelves": {"shelf_of": ["store"], "opened": ["data"]},
    "desk": {"hex_of": ["signs"]},
}
SLOT = {"": [], "chance": [], "seen": ["bit"]}
CLASSES = {
    "spans": {"Span": {"": [], "ends": [], "narrow": ["chance", "bit"], "settled": [], "told": []}},
    "seekers": {"Seeker": {"": ["data"], "bit": ["chance"], "ends": [], "told": []}},
    "slots": {"Slot": SLOT, "Even": SLOT, "Quick": SLOT, "Run": SLOT},
    "looks": {"Book": {"": ["look"], "chance": ["signs", "node"], "seen": ["signs", "node", "bit"]}},
    "mixing": {"Mixer": {"": ["many"], "weights": [], "mixed": ["chances"], "learn": ["chances", "bit"]}},
    "foretellers": {
        "Foreteller": {
            "": ["looks"], "chances": [], "chance": [], "weights": [], "node": [], "signs": [], "see": ["bit"],
            "fork": [],
        },
    },
    "stores": {
        "Store": {
            "": ["looks", "most=1000"], "told_looks": [], "most_signs": [], "names": [],
            "put": ["name", "text", "base=None"], "text_of": ["name"], "bytes_of": ["name"], "base_of": ["name"],
            "learned_of": ["name"], "drop": ["name"], "best_base": ["text"],
        },
    },
    "desk": {"Desk": {"": ["looks", "most=1000"], "say": ["row"]}},
}


def module_of(name):
    return importlib.import_module(f"foretell.{name}")


def arguments_of(called):
    """Their names, with what they are where nothing is handed in."""
    return [str(argument) for argument in inspect.signature(called).parameters.values()]


class TestInterface(unittest.TestCase):
    def test_functions(self):
        for module, functions in FUNCTIONS.items():
            for name, arguments in functions.items():
                with self.subTest(module=module, name=name):
                    self.assertEqual(arguments_of(getattr(module_of(module), name)), arguments)

    def test_classes_and_methods(self):
        for module, classes in CLASSES.items():
            for name, methods in classes.items():
                own = getattr(module_of(module), name)
                for method, arguments in methods.items():
                    with self.subTest(module=module, name=name, method=method):
                        if method == "":
                            self.assertEqual(arguments_of(own), arguments)
                        else:
                            self.assertEqual(arguments_of(getattr(own, method)), ["self"] + arguments)


if __name__ == "__main__":
    unittest.main()
