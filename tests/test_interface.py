"""The names and arguments that the interface lists, each defined in its own file."""

import importlib
import inspect
import unittest

INTERFACE = {
    "books": {"Book": "arities kinds rules moves"},
    "webs": {
        "Web": "values",
        "fits": "book web",
        "below": "web value",
        "part_web": "web value",
        "unfolded": "web value",
        "folded": "web",
        "beside": "web other",
    },
    "texts": {"book_text": "book", "web_text": "web", "read_book": "text", "read_web": "text"},
    "things": {"ways": "book web thing", "needs": "book web thing way", "makeable": "book web"},
    "plans": {
        "is_plan": "book web wishes thing",
        "price": "book web plan",
        "needless": "book web wishes plan",
        "orders": "book web plan",
    },
    "searching": {"cheapest": "book web wishes"},
    "choices": {
        "is_choice": "book web thing",
        "needed": "book web choice things",
        "plan_by": "book web choice wishes",
        "cost": "book web choice wishes",
        "chosen": "book web chooser",
    },
    "alone": {"alone": "book web", "own": "book web"},
    "judging": {
        "extras": "book web choice",
        "undercut": "book web choice",
        "is_best": "book web thing",
        "beaten": "book web choice",
    },
    "fences": {"is_fences": "book web thing", "floor": "book web fences wishes", "fences_of": "book web choice"},
    "finding": {"best": "book web", "stand_ins": "book web choice"},
    "prices": {"price_range": "book web choice way"},
    "sharing": {"shares": "book web choice wishes", "leavers": "book web choice wishes"},
    "standings": {"standings": "book", "labels": "book web"},
    "verdicts": {"wides": "book", "verdict": "book", "failing": "book"},
    "programs": {
        "Program": "book meanings hand test blocks",
        "plain": "program inputs most",
        "web_of": "program block",
        "wishes_of": "program block",
    },
    "codes": {"code_of": "program choices", "cells_of": "code", "ran": "program choices inputs most"},
    "bench": {"Bench": "book", "replayed": "book journal"},
    "programtexts": {"program_text": "program", "read_program": "text"},
    "scripts": {
        "is_script": "book web wishes limits thing",
        "script_price": "book web limits script",
        "held": "book web limits script",
    },
    "tight": {
        "tight": "book web wishes limits",
        "least_limit": "book web wishes kind",
        "free_limit": "book web wishes kind",
        "fewest_held": "book web wishes plan",
    },
    "workshop": {"Workshop": "program", "relived": "program journal"},
}
METHODS = {
    ("bench", "Bench"): {
        "put": "op parts",
        "turn": "value op parts",
        "wish": "thing",
        "drop": "thing",
        "reprice": "way price",
        "undo": "",
        "redo": "",
        "web": "",
        "book_now": "",
        "wishes": "",
        "gaps": "value",
        "own_ways": "value",
        "total": "",
        "undercut": "",
        "looked": "",
        "copy": "",
        "journal": "",
    },
    ("workshop", "Workshop"): {
        "start": "inputs",
        "step": "",
        "go": "many",
        "stand": "",
        "paid": "",
        "turn": "block values end",
        "reprice": "way price",
        "undo": "",
        "program_now": "",
        "worked": "",
        "copy": "",
        "journal": "",
    },
}


class InterfaceTest(unittest.TestCase):
    def test_names_and_arguments(self):
        for file, names in INTERFACE.items():
            module = importlib.import_module("lookdown." + file)
            for name, arguments in names.items():
                found = getattr(module, name)
                self.assertEqual(found.__module__, "lookdown." + file)
                self.assertEqual(list(inspect.signature(found).parameters), arguments.split(), name)

    def test_methods_of_classes(self):
        for (file, name), told in METHODS.items():
            found = vars(getattr(importlib.import_module("lookdown." + file), name))
            for method, arguments in told.items():
                self.assertEqual(list(inspect.signature(found[method]).parameters), ["self", *arguments.split()], method)

    def test_classes_compare_by_methods_of_their_own(self):
        for file, name in [("books", "Book"), ("webs", "Web"), ("programs", "Program")]:
            found = getattr(importlib.import_module("lookdown." + file), name)
            self.assertIn("__init__", vars(found))
            self.assertIn("__eq__", vars(found))


if __name__ == "__main__":
    unittest.main()
