"""The refusals, and the names and arguments of the interface."""

import unittest
from importlib import import_module
from inspect import signature

from steermill import errors

REFUSALS = ("NoBack", "NoText", "NoName", "NoRow")

INTERFACE = {
    "steermill.numbers": {
        "number": ["kind", "whole"],
        "plus": ["kind", "one", "other"],
        "minus": ["kind", "one", "other"],
        "times": ["kind", "one", "other"],
        "over": ["kind", "one", "other"],
    },
    "steermill.tables": {
        "product": ["kind", "one", "other"],
        "turned": ["table"],
        "image": ["kind", "table", "row"],
        "reduced": ["kind", "rows"],
        "solved": ["kind", "table", "row"],
        "back": ["kind", "table"],
    },
    "steermill.rooms": {
        "joined": ["kind", "one", "other"],
        "met": ["kind", "n", "one", "other"],
        "against": ["kind", "n", "room"],
        "lies_in": ["kind", "room", "row"],
    },
    "steermill.machines": {
        "next_of": ["kind", "machine", "standing", "inputs"],
        "seen_of": ["kind", "machine", "standing"],
        "run": ["kind", "machine", "standing", "inputs"],
        "marks": ["kind", "machine", "many"],
        "turned_by": ["kind", "machine", "T", "S"],
    },
    "steermill.steering": {
        "steered_room": ["kind", "machine"],
        "steer": ["kind", "machine", "start", "goal", "turns"],
        "fewest": ["kind", "machine", "start", "goal", "most"],
    },
    "steermill.seeing": {
        "unseen_room": ["kind", "machine"],
        "told_apart": ["kind", "machine", "one", "other"],
        "standings": ["kind", "machine", "answers"],
    },
    "steermill.parts": {
        "parting": ["kind", "machine"],
        "core": ["kind", "machine"],
    },
    "steermill.polys": {
        "great": ["kind", "table"],
    },
    "steermill.rules": {
        "rule_for": ["kind", "machine", "polynomial"],
        "rest_rule": ["kind", "machine"],
    },
    "steermill.watchers": {
        "watcher_for": ["kind", "machine", "polynomial"],
        "put_together": ["kind", "machine", "F", "L"],
    },
    "steermill.least": {
        "read_off": ["kind", "marks"],
        "compared": ["kind", "one", "other"],
    },
    "steermill.joins": {
        "beside": ["kind", "one", "other"],
        "behind": ["kind", "one", "other"],
        "ring": ["kind", "machine"],
    },
    "steermill.cheapest": {
        "cheapest": ["machine", "start", "goal", "turns"],
    },
    "steermill.texts": {
        "show_table": ["kind", "table"],
        "read_table": ["kind", "text"],
    },
    "steermill.desk": {
        "Desk": [],
    },
}


class Refusals(unittest.TestCase):
    def test_any_refusal_is_a_value_error(self):
        self.assertEqual(errors.MillError.__bases__, (ValueError,))

    def test_each_stands_under_mill_error_alone(self):
        for name in REFUSALS:
            self.assertEqual(getattr(errors, name).__bases__, (errors.MillError,), name)

    def test_none_stands_under_another(self):
        for name in REFUSALS:
            for other in REFUSALS:
                if name != other:
                    self.assertFalse(issubclass(getattr(errors, name), getattr(errors, other)), (name, other))


class Interface(unittest.TestCase):
    def test_names_and_arguments_are_as_told(self):
        for module, functions in INTERFACE.items():
            for name, arguments in functions.items():
                found = getattr(import_module(module), name)
                self.assertEqual(list(signature(found).parameters), arguments, (module, name))

    def test_a_desk_is_told_rows(self):
        desk = import_module("steermill.desk").Desk
        self.assertIsInstance(desk, type)
        self.assertEqual(list(signature(desk().say).parameters), ["row"])


if __name__ == "__main__":
    unittest.main()
