"""All that the document's interface names is there, with its arguments by place."""

import importlib
import inspect
import unittest

# For each module its functions, with how many arguments each takes.
FUNCTIONS = {
    "plain": {"is_name": 1, "alike": 2},
    "worlds": {"is_world": 1, "many_points": 1, "points_of": 2, "part_of": 3, "led": 3},
    "sentences": {"is_hands": 1, "is_step": 1, "is_sentence": 1},
    "nodes": {"things_of": 1, "parts_at": 1, "binders_at": 1, "rooms_at": 1, "binder_of": 2, "sign_at": 4},
    "sentencetexts": {"shown_sentence": 1, "read_sentence": 1},
    "worldtexts": {"shown_world": 1, "read_world": 1},
    "plainwords": {"is_plain": 1, "cored": 1},
    "plaintexts": {"shown_plain": 1, "read_plain": 1},
    "judging": {"holds": 2, "room_world": 3},
    "showing": {"cut": 3, "said": 3},
    "rounds": {"telling": 3, "rounds": 3},
    "common": {"common_parts": 2, "pool_parts": 2, "levels": 3, "doubt": 4},
    "remembering": {"ways_from": 3, "remembered": 3},
    "claims": {"hard_at": 3, "leans": 4},
    "checking": {"fault_of": 3, "lets": 5},
    "ranking": {"ranked": 2},
    "answering": {"answered": 3},
    "mending": {"changed": 2, "mended": 6},
    "talks": {"talked": 6},
    "alike": {"classes": 1, "lets_classes": 2},
    "small": {"small": 1, "beside": 2, "alike_points": 4},
    "carrying": {"carried": 3},
    "parting": {"parted": 3},
    "turning": {"turned": 1, "turned_paper": 2, "unfolded": 1},
    "onehand": {"same_said": 2},
    "reckonings": {"is_reckoning": 2, "reckoned": 2},
    "machines": {"is_machine": 1, "first_state": 1, "done_at": 3, "world_of": 1},
    "machinetexts": {"shown_machine": 1, "read_machine": 1},
    "programs": {"is_system": 1, "first_of": 1, "ways_on": 2},
    "weaving": {"machine_of": 1},
    "papertexts": {"shown_paper": 1, "read_paper": 1},
}
REFUSALS = {"NoText": ("row", "word"), "NoTruth": ("place",), "TooMany": (), "NoChange": (), "NoLine": (), "NoWorld": (),
            "NoPoint": (), "NoPaper": ()}


class InterfaceTest(unittest.TestCase):
    def test_functions(self):
        for stem, functions in FUNCTIONS.items():
            module = importlib.import_module("worldsay." + stem)
            for name, many in functions.items():
                with self.subTest(module=stem, name=name):
                    told = getattr(module, name)
                    self.assertEqual(told.__module__, "worldsay." + stem)
                    needed = [one for one in inspect.signature(told).parameters.values() if one.default is one.empty]
                    self.assertEqual(len(needed), many)

    def test_desk(self):
        desk = importlib.import_module("worldsay.desk").Desk()
        self.assertEqual(list(inspect.signature(desk.say).parameters), ["row"])

    def test_refusals(self):
        errors = importlib.import_module("worldsay.errors")
        self.assertEqual(errors.WorldError.__bases__, (ValueError,))
        for name, fields in REFUSALS.items():
            refusal = getattr(errors, name)
            self.assertEqual(refusal.__bases__, (errors.WorldError,))
            made = refusal(*range(5, 5 + len(fields)))
            self.assertEqual([getattr(made, field) for field in fields], list(range(5, 5 + len(fields))))


if __name__ == "__main__":
    unittest.main()
