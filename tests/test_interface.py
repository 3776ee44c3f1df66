"""The interface: every name and argument in the file under which the document lists it."""

import ast
import os
import unittest

PACKAGE = os.path.join(os.path.dirname(os.path.dirname(os.path.abspath(__file__))), "farbooks")

FUNCTIONS = {
    "spans.py": {
        "has_key": ["span", "key"],
        "all_kept": ["spans"],
        "clashes": ["spans", "span"],
        "span_with": ["spans", "key"],
        "cut_at": ["spans", "key"],
        "joined_at": ["spans", "key"],
    },
    "bench.py": {
        "woken": ["seat"],
        "handled": ["seat", "letter"],
        "proposed": ["seat", "command"],
        "pending": ["seat"],
        "papers": ["seat"],
    },
    "tale.py": {
        "record_of": ["world"],
        "kept_of": ["record", "group"],
        "book_of": ["record", "group"],
    },
    "order.py": {
        "order_of": ["record"],
        "faults": ["record"],
        "plain": ["order", "moment"],
    },
    "calming.py": {
        "calm": ["world", "rounds"],
        "settled": ["world"],
    },
    "story.py": {
        "read_story": ["text"],
        "shown_story": ["plan", "happenings"],
        "told_story": ["text"],
    },
}

CLASSES = {
    "errors.py": {"StoryError": {"__init__": ["words", "place"]}},
    "shelf.py": {
        "Shelf": {
            "__init__": [],
            "put": ["key", "moment", "value"],
            "at": ["key", "moment"],
            "newest": ["key"],
            "rows": ["span"],
            "take": ["rows"],
        },
    },
    "ledger.py": {
        "Ledger": {
            "__init__": ["spans"],
            "apply": ["command"],
            "owned": [],
            "last": [],
            "locks": [],
            "ready": [],
            "opened": [],
            "refused": [],
            "chosen": ["deal"],
            "ended": ["deal"],
            "given": [],
            "taken": [],
            "value": ["key"],
            "tells": ["key", "moment"],
            "twin": [],
        },
    },
    "seat.py": {"Seat": {"__init__": ["group", "house", "names"], "names": [], "entries": [], "fall": []}},
    "steward.py": {
        "Steward": {
            "__init__": ["group"],
            "woken": ["ledger", "pending", "now"],
            "applied": ["ledger", "command", "word", "now"],
            "heard": ["ledger", "pending", "note", "now"],
        },
    },
    "world.py": {
        "World": {
            "__init__": ["plan"],
            "plan": [],
            "happen": ["happening"],
            "time": [],
            "letters": [],
            "standing": [],
            "chairs": [],
            "groups": [],
            "ledger": ["house", "group"],
            "seat_log": ["house", "group"],
            "names": ["house", "group"],
            "kept_place": ["house", "group"],
            "history": [],
            "papers": [],
        },
    },
}

BASES = {
    "StoryError": "ValueError",
    "BadRow": "StoryError",
    "Misplaced": "StoryError",
    "Twice": "StoryError",
    "TooMany": "StoryError",
    "Uneven": "StoryError",
}


def body_of(name):
    with open(os.path.join(PACKAGE, name), encoding="utf-8") as file:
        return ast.parse(file.read()).body


def functions_in(body):
    return {node.name: [arg.arg for arg in node.args.args] for node in body if isinstance(node, ast.FunctionDef)}


class Interface(unittest.TestCase):

    def test_functions(self):
        for name, functions in FUNCTIONS.items():
            found = functions_in(body_of(name))
            for function, arguments in functions.items():
                self.assertEqual(found.get(function), arguments, (name, function))

    def test_classes_and_their_methods(self):
        for name, classes in CLASSES.items():
            found = {node.name: node for node in body_of(name) if isinstance(node, ast.ClassDef)}
            for owner, methods in classes.items():
                self.assertIn(owner, found, name)
                defined = functions_in(found[owner].body)
                for method, arguments in methods.items():
                    self.assertEqual(defined.get(method), ["self", *arguments], (owner, method))

    def test_errors_and_their_bases(self):
        found = {
            node.name: [base.id for base in node.bases]
            for node in body_of("errors.py") if isinstance(node, ast.ClassDef)
        }
        for error, base in BASES.items():
            self.assertEqual(found.get(error), [base], error)


if __name__ == "__main__":
    unittest.main()
