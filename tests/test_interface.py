"""The interface: names, arguments, and the file in which each is defined."""

import importlib
import inspect
import unittest

from seekways.tasks import Task

DOORS = {
    "start": "(self)", "has": "(self, thing)", "nexts": "(self, standing)", "is_done": "(self, standing)",
    "named": "(self, standing)", "bound": "(self, standing)", "cut": "(self, standing)", "turnings": "(self)",
    "turned": "(self, number, standing)", "ends": "(self)", "ahead": "(self, standing)",
}
FUNCTIONS = {
    "wholes": {"is_whole": "(thing)", "is_standing": "(thing)"},
    "looks": {
        "label": "(task, word, standing)", "look": "(task, standing)",
        "look_alike": "(task, word, one, other)", "look_ahead": "(task, standing)",
    },
    "rests": {"told_of": "(task)"},
    "answers": {
        "is_answer": "(task, thing)", "cost_of": "(task, steps)", "way_of": "(task, steps)",
        "plus": "(cost, worth)", "at_most": "(worth, other)",
    },
    "backs": {"back_holds": "(task, thing)"},
    "papers": {"paper_holds": "(task, thing)", "claim": "(paper)"},
    "trees": {"tree_holds": "(task, thing, *, cuts=False)"},
    "picks": {"picked": "(book, word, limit)"},
    "local": {"led": "(task, numbers)"},
    "writing": {"written": "(thing)", "read": "(task, thing)"},
    "edits": {"edited": "(task, edit)", "carried": "(way, task)"},
    "texts": {"task_text": "(told)", "read_task": "(text)"},
}
TASKS = {
    "told": {"Told": "(rows, *, turns=(), ends=None, heads=None)"},
    "boards": {"Board": "(cells, colours, groups, *, turns=())"},
    "nets": {"Net": "(first, ways, goals, *, guesses=None, turns=())"},
    "covers": {"Cover": "(many, rows)"},
    "rooms": {"Rooms": "(sizes, rooms, space)"},
    "orders": {"Orders": "(jobs)"},
    "rests": {"Rest": "(task, standing)"},
}
BOOK = {
    "alike": "(self)", "known": "(self)", "standing_of": "(self, number)", "state_of": "(self, number)",
    "number_of": "(self, standing)", "waiting": "(self)", "open_row": "(self, number)", "open_back": "(self)",
    "base": "(self, number)", "lower": "(self, number)", "upper": "(self, number)", "reached": "(self, number)",
    "bound": "(self)", "best": "(self)", "answer": "(self)", "paper": "(self)", "told": "(self)",
    "progress": "(self)", "back_told": "(self)", "openings": "(self)", "is_broken": "(self)",
    "hint": "(self, things)", "offer": "(self, steps)", "take": "(self, paper)",
}
CLASSES = {
    "book": {"Book": ("(task, *, alike='name', back=False)", BOOK)},
    "ways": {"Way": ("(task, word, *, alike='name')", {
        "kind": "(self)", "book": "(self)", "step": "(self)", "go": "(self, steps)", "is_over": "(self)",
        "limit": "(self)",
    })},
    "joined": {"Joined": ("(task, parts, *, alike='name')", {
        "book": "(self)", "step": "(self)", "go": "(self, steps)", "is_over": "(self)", "turn": "(self)",
        "limits": "(self)",
    })},
    "tries": {"Tries": ("(task, *, cuts=False)", {
        "step": "(self)", "go": "(self, steps)", "is_over": "(self)", "leaves": "(self)", "answers": "(self)",
        "shut": "(self)",
    })},
    "local": {"Local": ("(task, numbers)", {
        "step": "(self)", "go": "(self, steps)", "is_over": "(self)", "numbers": "(self)", "answer": "(self)",
    })},
    "desk": {"Desk": ("()", {"run": "(self, text)", "log": "(self)", "is_free": "(self)"})},
}


def module(name):
    return importlib.import_module("seekways." + name)


class Interface(unittest.TestCase):
    def check(self, listed):
        for name, things in listed.items():
            for word, arguments in things.items():
                thing = getattr(module(name), word)
                self.assertEqual(thing.__module__, "seekways." + name, word)
                self.assertEqual(str(inspect.signature(thing)), arguments, word)

    def test_functions(self):
        self.check(FUNCTIONS)

    def test_tasks(self):
        self.check(TASKS)
        for name, things in TASKS.items():
            for word in things:
                self.assertTrue(issubclass(getattr(module(name), word), Task), word)

    def test_doors_stand_in_task_itself(self):
        for word, arguments in DOORS.items():
            self.assertEqual(str(inspect.signature(vars(Task)[word])), arguments, word)

    def test_every_task_has_the_doors_with_the_same_arguments(self):
        for name, things in TASKS.items():
            for word in things:
                for door, arguments in DOORS.items():
                    made = getattr(getattr(module(name), word), door)
                    self.assertEqual(str(inspect.signature(made)), arguments, (word, door))

    def test_each_class_has_its_methods_itself(self):
        for name, things in CLASSES.items():
            for word, (arguments, methods) in things.items():
                self.check({name: {word: arguments}})
                own = vars(getattr(module(name), word))
                for method, parts in methods.items():
                    self.assertEqual(str(inspect.signature(own[method])), parts, (word, method))

    def test_a_rest_has_every_door_itself(self):
        for door in DOORS:
            self.assertIn(door, vars(module("rests").Rest))

    def test_told_has_its_equality_length_and_text_itself(self):
        for word in ("__eq__", "__len__", "__str__"):
            self.assertIn(word, vars(module("told").Told))


if __name__ == "__main__":
    unittest.main()
