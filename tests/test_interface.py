"""The interface: every name, its arguments, and where it is defined; the examples."""

import doctest
import importlib
import inspect
import unittest
from pathlib import Path

import neverrounds

FUNCTIONS = {
    "figures": {"is_name": "text", "write_number": "number", "read_number": "text"},
    "walks": {"walk": "tour start lengths", "shared": "one other"},
    "meets": {"visits": "first second", "may_meet": "first second", "least_lag": "first second apart"},
    "stairs": {"escape_sets": "first second", "reach_sets": "first second apart", "can_avoid": "first second apart",
               "surely_meet": "first second"},
    "finding": {name: "first second apart" for name in ("meeting", "alibi", "avoidance", "trap")},
    "judge": {"judge": "first second apart", "parting": "first second"},
    "plain": {"every_lengths": "tour", "plain_word": "first second apart"},
    "house": {"run": "groups lengths"},
    "waits": {"first_waits": "first second apart"},
    "gaps": {"least_gap": "clock tour count"},
    "lags": {"spare_lag": "first second apart"},
    "shadows": {"probe": "first second", "compare": "first second"},
    "wishes": {"most_groups": "clock wishes", "tree_bound": "tree"},
    "texts": {"write_moments": "moments", "write_round": "tour", "read_moments": "text", "write_desk": "desk",
              "read_desk": "lines"},
    "console": {"answers": "lines"},
    "board": {"board": "desk"},
}
# The base classes, the arguments, and the methods and properties of each class.
CLASSES = {
    "moments": {"Moments": ("object", "pairs", "__or__ __and__ __xor__ __add__ __sub__ __rshift__ __lshift__ __mod__ "
                            "__floordiv__ __neg__ __abs__ __contains__ __eq__ __len__ __iter__ outside clipped within "
                            "free_from span none", "spans lowest highest size")},
    "rounds": {"Round": ("object", "stays", "earliest latest window lagging allows read __getitem__ __len__ __iter__ "
                         "__eq__ __add__ __mul__ __rmul__ __call__ MOST_STAYS", "stays rooms shortest longest")},
    "certificates": {
        "Certificate": ("object", "first second apart", "holds", ""),
        "Meeting": ("Certificate", "first second apart first_lengths second_lengths room moment", "holds", "lag"),
        "Alibi": ("Certificate", "first second apart rows", "holds", ""),
        "Avoidance": ("Certificate", "first second apart first_lengths second_lengths", "holds", ""),
        "Trap": ("Certificate", "first second apart cells", "holds", ""),
    },
    "judge": {"Verdict": ("object", "word certificates", "", ""), "Parting": ("object", "first second", "__call__",
                                                                              "maybe")},
    "house": {"Run": ("object", "walks waits", "", "")},
    "waits": {"FirstWait": ("object", "who first_step second_step room minutes first_lengths second_lengths", "", "")},
    "clocks": {
        "Clock": ("object", "length", "placed meets can_meet verdict fits widest_gap words", ""),
        "Day": ("Clock", "length", "fits widest_gap words", ""),
        "Ring": ("Clock", "length", "placed meets fits widest_gap words", ""),
    },
    "gaps": {"Gap": ("object", "gap cover", "", "")},
    "wishes": {"Choice": ("object", "places names tree", "", "")},
    "placing": {
        "Named": ("object", "name", "", ""),
        "Timed": ("object", "tour start", "where", ""),
        "Group": ("Named Timed", "name tour start", "", ""),
        "Closing": ("Timed", "room start minutes", "", ""),
    },
    "desk": {"Desk": ("object", "clock closings limit", "book book_all cancel move close change_limit undo redo groups "
                      "closings group safe_starts run __getitem__ __setitem__ __contains__ __len__ __iter__", "limit")},
    "console": {"Console": ("object", "", "answer", "")},
}
METHODS = {
    "Moments": {"outside": "low high", "clipped": "low high", "within": "other", "free_from": "number",
                "span": "low high", "none": ""},
    "Round": {"earliest": "step", "latest": "step", "window": "step", "lagging": "extra", "allows": "lengths",
              "read": "text", "__call__": "start"},
    "Clock": {"placed": "start", "meets": "differences apart", "can_meet": "first second apart",
              "verdict": "parting apart", "fits": "tour start", "widest_gap": "tour count", "words": ""},
    "Timed": {"where": "moment"},
    "Desk": {"book": "name tour start", "book_all": "rows", "cancel": "name", "move": "name start",
             "close": "room start minutes", "change_limit": "limit", "undo": "", "redo": "", "groups": "",
             "closings": "", "group": "name", "safe_starts": "tour", "run": "lengths"},
    "Console": {"answer": "line"},
    "Certificate": {"holds": ""},
}
EXAMPLES = """
>>> from neverrounds.moments import Moments
>>> a = Moments([(7, 9), (1, 3), (4, 4)])
>>> a.spans
[(1, 4), (7, 9)]
>>> (a - Moments([(0, 1)])).spans
[(0, 4), (6, 9)]
>>> (a // 2).spans
[(1, 2), (4, 4)]
>>> from neverrounds.rounds import Round
>>> from neverrounds.meets import may_meet, least_lag
>>> first = Round([("east", 10, 12), ("west", 5, 8)])
>>> second = Round([("west", 3, 4)])
>>> may_meet(first, second).spans
[(7, 19)]
>>> least_lag(first, second, 16)
2
>>> from neverrounds.stairs import surely_meet
>>> surely_meet(first, second).spans
[(10, 14)]
>>> from neverrounds.judge import judge, parting
>>> judge(first, second, 9).word
'maybe'
>>> parting(first, second).maybe.spans
[(7, 9), (15, 19)]
>>> from neverrounds.waits import first_waits
>>> waits = first_waits(first, second, 10)
>>> [len(waits), waits[0].who, waits[0].minutes.spans, waits[1].who, waits[1].minutes.spans]
[2, 1, [(1, 3)], 2, [(5, 8)]]
>>> from neverrounds.clocks import Clock
>>> from neverrounds.gaps import least_gap
>>> tour = Round([("east", 2, 2), ("hall", 5, 5), ("east", 1, 1)])
>>> found = least_gap(Clock(100), tour, 4)
>>> [found.gap, found.cover]
[4, [(1, 1, 1), (2, 2, 3), (3, 3, 2)]]
>>> from neverrounds.console import answers
>>> lines = ["day 60", "round a east 10..12, west 5..8", "round b west 3..4"]
>>> more = ["book red a 0", "book blue b 12", "starts b", "judge a b 9"]
>>> list(answers(lines + more))
['ok', 'ok', 'ok', 'ok', 'refused clash red', '0..6 20..56', 'maybe']
"""


def made_module(name):
    return importlib.import_module(f"neverrounds.{name}")


def arguments(called):
    """The names of the arguments, without the object itself."""
    return [name for name in inspect.signature(called).parameters if name not in ("self", "cls")]


class InterfaceTest(unittest.TestCase):
    def test_functions(self):
        for module, functions in FUNCTIONS.items():
            for name, told in functions.items():
                with self.subTest(module=module, name=name):
                    function = getattr(made_module(module), name)
                    self.assertTrue(inspect.isfunction(function))
                    self.assertEqual(function.__module__, f"neverrounds.{module}")
                    self.assertEqual(arguments(function), told.split())

    def test_classes(self):
        for module, classes in CLASSES.items():
            for name, (bases, told, methods, properties) in classes.items():
                with self.subTest(module=module, name=name):
                    found = getattr(made_module(module), name)
                    self.assertTrue(inspect.isclass(found))
                    self.assertEqual(found.__module__, f"neverrounds.{module}")
                    self.assertEqual([base.__name__ for base in found.__bases__], bases.split())
                    self.assertEqual(arguments(found), told.split())
                    for each in methods.split() + properties.split():
                        self.assertIn(each, vars(found))
                    for each in properties.split():
                        self.assertIs(type(vars(found)[each]), property)

    def test_methods(self):
        for module, classes in CLASSES.items():
            for name in classes:
                found = getattr(made_module(module), name)
                for method, told in METHODS.get(name, {}).items():
                    with self.subTest(name=name, method=method):
                        self.assertEqual(arguments(getattr(found, method)), told.split())
        for kind in (made_module("clocks").Day, made_module("clocks").Ring):
            for method, told in METHODS["Clock"].items():
                self.assertEqual(arguments(getattr(kind, method)), told.split())

    def test_generators(self):
        for module, name in (("meets", "visits"), ("plain", "every_lengths"), ("console", "answers")):
            self.assertTrue(inspect.isgeneratorfunction(getattr(made_module(module), name)))

    def test_values(self):
        self.assertEqual(made_module("rounds").HALL, "hall")
        self.assertEqual(made_module("rounds").Round.MOST_STAYS, 6)
        limit = inspect.signature(made_module("desk").Desk).parameters["limit"]
        self.assertEqual([limit.kind, limit.default], [inspect.Parameter.KEYWORD_ONLY, 8])
        self.assertIsNotNone(vars(made_module("desk").Desk)["limit"].fset)

    def test_the_examples(self):
        example = doctest.DocTestParser().get_doctest(EXAMPLES, {}, "examples", None, 0)
        told = []
        result = doctest.DocTestRunner(verbose=False).run(example, out=told.append)
        self.assertEqual((result.failed, "".join(told)), (0, ""))
        self.assertEqual(result.attempted, EXAMPLES.count(">>>"))


class FilesTest(unittest.TestCase):
    FILES = sorted(Path(neverrounds.__file__).parent.iterdir())

    def test_only_files_of_the_program(self):
        for path in self.FILES:
            if path.name != "__pycache__":
                self.assertEqual(path.suffix, ".py")

    def test_nothing_from_outside(self):
        # No clock, no random numbers, no files: all that is imported stands in the package.
        for path in self.FILES:
            if path.suffix == ".py":
                for line in path.read_text().splitlines():
                    if line.startswith(("import ", "from ")):
                        self.assertTrue(line.startswith("from neverrounds."), line)


if __name__ == "__main__":
    unittest.main()
