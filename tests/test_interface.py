"""The interface: every name of what has landed, with its arguments."""

import importlib
import inspect
import unittest

from websbykind.desk import Desk

WANTED = {
    "webs": {
        "is_web": ["thing"], "is_turn": ["many", "thing"], "turned": ["web", "turn"],
        "behind": ["many", "one", "other"], "back": ["many", "turn"], "rounds_of": ["many", "turn"],
        "kind_of": ["many", "turn"],
    },
    "kinds": {"is_kind": ["many", "thing"], "all_kinds": ["many"], "turns_many": ["many", "kind"]},
    "alike": {
        "first_turn": ["web", "other"], "own_turns": ["web"], "all_alike": ["web"], "form": ["web"],
        "alike_many": ["web"],
    },
    "pairs": {
        "pair_rounds": ["many", "turn"], "stands": ["web", "turn"], "pair_lengths": ["many", "kind"],
        "standing_many": ["many", "kind"], "standing_by_ties": ["many", "kind"], "webs_many": ["many"],
        "webs_by_ties": ["many"],
    },
    "hanging": {
        "hangs": ["web"], "parts": ["web"], "gathered": ["numbers"], "parted": ["numbers"],
        "hanging_many": ["many"], "hanging_by_ties": ["many"],
    },
    "trees": {
        "is_tree": ["web"], "middles": ["web"], "is_code": ["thing"], "code_from": ["web", "place"],
        "tree_code": ["web"], "tree_by": ["code"], "freed": ["code"],
    },
    "growing": {"codes_many": ["many"], "trees_many": ["many"], "all_codes": ["many"], "all_trees": ["many"]},
    "counts": {
        "is_counts": ["thing"], "counts_of": ["web"], "has_web": ["counts"], "is_none_paper": ["counts", "thing"],
        "none_paper": ["counts"], "webs_with": ["counts"], "first_web": ["counts"], "kinds_with": ["counts"],
    },
    "forms": {
        "all_forms": ["many"], "form_number": ["web"], "form_at": ["many", "number"], "with_more": ["web"],
        "with_fewer": ["web"],
    },
    "opposites": {"opposite": ["web"], "opposite_turn": ["web"], "opposite_many": ["many"]},
    "marks": {
        "are_marks": ["web", "thing"], "marks_turn": ["web", "one", "other"], "first_marks": ["web", "marks"],
        "marks_many": ["web", "sorts"], "all_marks": ["web", "sorts"], "marks_with": ["web", "numbers"],
        "marked_many": ["many", "sorts"],
    },
    "texts": {
        "web_text": ["web"], "turn_text": ["many", "turn"], "read_web": ["text"], "read_turn": ["many", "text"],
    },
    "desk": {"Desk": []},
}


class Interface(unittest.TestCase):
    def test_names_and_arguments(self):
        for file, names in WANTED.items():
            module = importlib.import_module("websbykind." + file)
            for name, arguments in names.items():
                with self.subTest(f"{file}.{name}"):
                    self.assertEqual(list(inspect.signature(getattr(module, name)).parameters), arguments)

    def test_a_desk(self):
        self.assertTrue(inspect.isclass(Desk))
        self.assertEqual(list(inspect.signature(Desk().say).parameters), ["line"])


if __name__ == "__main__":
    unittest.main()
