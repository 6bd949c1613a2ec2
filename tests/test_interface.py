"""The names and arguments of the document's interface."""

import importlib
import inspect
import unittest

FUNCTIONS = {
    "facts": ["case_number(facts, case)", "case_of(facts, number)"],
    "ruling": ["decider(book, case)", "way(book, case)", "rules_looked_at(book, case)"],
    "reasons": [
        "reason(book, case)", "is_reason(book, case, condition)", "core(book, case, condition)", "turn(book, case)",
        "turn_to(book, case, ruling)",
    ],
    "counting": [
        "counts(book)", "decided_by(book, name)", "idle_rules(book)", "nth_case(book, ruling, number)", "rank(book, case)",
        "cases(book, ruling, first, last)", "swing(book, fact)", "idle_facts(book)", "share(book, ruling, chances)",
    ],
    "comparison": ["first_unlike(book, other)", "unlike_count(book, other)", "clashes(book)", "swapped(book, name)"],
    "shapes": ["flat(book)", "lean(book)", "under(book, condition)"],
    "hearings": ["fewest_questions(hearing)", "next_question(hearing)", "best_guess(hearing)", "hear(book, case, facts)"],
    "amendments": ["amended(book, amendment)"],
    "statutes": [
        "rulings_by_day(statute, case)", "stood(statute, name)", "touched(statute, name)", "idle_amendments(statute)",
        "undone_on(statute, index)", "first_turn_day(statute, case, ruling)",
        "count_days(statute, case, ruling, first, last)", "restless(statute)",
    ],
    "seasons": ["count_rulings(seasons, case, days)", "always(seasons)", "next_day(seasons, case, ruling, day)"],
    "dockets": [
        "looked_at(docket, label)", "effect_of(docket, label, ruling)", "without(docket, label)",
        "retried(docket, label, case)", "fewest_appeals(docket, label, ruling, most)",
    ],
    "learning": ["first_misfit(book, examples)", "least_book(facts, examples, most)"],
    "notation": ["format_book(book)", "parse_book(text)"],
    "tables": ["explained(book, case)", "table(book, facts)"],
    "codec": ["encode_book(book)", "decode_book(values)"],
}
METHODS = {
    "conditions": {"Condition": [
        "__init__(holding, failing)", "__call__(case)", "__len__()", "__and__(other)", "within(other)", "__eq__(other)",
    ]},
    "books": {
        "Rule": ["__init__(name, condition, ruling, exceptions)", "__len__()", "__eq__(other)"],
        "Book": [
            "__init__(facts, rules, ruling)", "__len__()", "__contains__(name)", "__getitem__(name)", "__sub__(name)",
            "__eq__(other)", "__call__(case)",
        ],
    },
    "hearings": {"Hearing": [
        "__init__(book)", "possible()", "deciders()", "settled()", "open_count()", "tell(fact, holds)",
        "possible_after(fact, holds)", "take_back()",
    ]},
    "statutes": {"Statute": ["__init__(book, amendments)", "__call__(day)", "extended(dated)"]},
    "seasons": {"Seasons": ["__init__(book, spans)", "__call__(day)"]},
    "dockets": {"Docket": ["__init__(books, entries)", "__getitem__(label)", "__len__()", "__contains__(label)"]},
    "live": {
        "LiveCourt": [
            "__init__(book)", "amend(amendment)", "stale()", "judge(label, case)", "drop(label)", "renew(label)", "undo()",
            "redo()", "apply_all(operations)", "tried(operations, keep)",
        ],
        "Trial": ["__init__(court)", "keep()", "__enter__()", "__exit__(kind, value, trace)"],
    },
    "watchers": {
        "ConditionWatcher": [
            "__init__(book, name)", "see(case, ruling)", "see_decider(case, name)", "possible(case)", "telling()",
        ],
        "OrderWatcher": ["__init__(book)", "see(case, ruling)", "sure(name, other)"],
    },
    "daybooks": {"Daybook": ["__init__(text)", "finish()"]},
}
PROPERTIES = {
    "conditions": {"Condition": ["holding", "failing", "names"]},
    "books": {
        "Rule": ["name", "condition", "ruling", "exceptions", "depth"],
        "Book": ["facts", "rules", "ruling", "names", "rulings"],
    },
    "hearings": {"Hearing": ["known"]},
    "statutes": {"Statute": ["book", "amendments", "days"]},
    "seasons": {"Seasons": ["period"]},
    "dockets": {"Docket": ["books", "entries"]},
    "live": {"LiveCourt": ["book", "judged", "history"]},
    "watchers": {
        "ConditionWatcher": ["candidates", "records"], "OrderWatcher": ["order_count", "first_order", "records"],
    },
    "daybooks": {"Daybook": ["results"]},
}


def module(name):
    return importlib.import_module(f"smallcourt.{name}")


def signature(function, name):
    """The name and the parameters but `self` and `cls`, of which none has a default value."""
    told = inspect.signature(function)
    return name + str(told).replace("(self, ", "(").replace("(self)", "()").replace("(cls, ", "(")


class InterfaceTest(unittest.TestCase):
    def test_functions(self):
        for place, told in FUNCTIONS.items():
            for one in told:
                name = one.split("(")[0]
                function = getattr(module(place), name)
                self.assertEqual(signature(function, name), one)
                self.assertEqual(function.__module__, f"smallcourt.{place}")

    def test_methods(self):
        for place, classes in METHODS.items():
            for name, told in classes.items():
                made = getattr(module(place), name)
                self.assertEqual(made.__module__, f"smallcourt.{place}")
                for one in told:
                    method = one.split("(")[0]
                    self.assertEqual(signature(vars(made)[method], method), one)

    def test_class_methods(self):
        replay = vars(module("live").LiveCourt)["replay"]
        self.assertIsInstance(replay, classmethod)
        self.assertEqual(signature(replay.__func__, "replay"), "replay(book, operations)")

    def test_properties(self):
        for place, classes in PROPERTIES.items():
            for name, told in classes.items():
                for one in told:
                    self.assertIsInstance(vars(getattr(module(place), name))[one], property)

    def test_generators(self):
        self.assertTrue(inspect.isgeneratorfunction(module("counting").cases))


if __name__ == "__main__":
    unittest.main()
