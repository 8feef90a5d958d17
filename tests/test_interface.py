"""The names and arguments of the interface stand where the document lists them."""

import ast
import unittest
from pathlib import Path

ROOT = Path(__file__).resolve().parent.parent / "pagebureau"

HEAP = "pages, opening, closing"
# For each file its functions and classes, with their arguments as they are called.
FUNCTIONS = {
    "base/rows.py": {"is_row": "thing", "row_text": "row"},
    "ledger/lots.py": {"parting_links": "first, second"},
    "ledger/heaps.py": {
        "stages": "pages", "gaps": "pages, opening, closing, order", "fewest": HEAP, "prices": "pages, closing",
        "toll": "links, told, balance",
    },
    "ledger/orders.py": {
        "first_order": HEAP, "orders": HEAP, "followers": HEAP + ", number=None", "losses": HEAP, "stage_ends": HEAP,
    },
    "ledger/mending.py": {"copies": "pages", "lean": HEAP},
    "ledger/misread.py": {"one_digit_apart": "first, second", "readings": "lines, opening, closing", "spares": HEAP},
    "keeping/keepers.py": {
        "kept_places": "keeper, rows, order=None", "kept_along": "keeper, rows", "keep_up": "keeper, batches",
    },
    "keeping/asking.py": {
        "steady": "keeper", "lost": "keeper", "same_kept": "first, second", "kept_up": "keeper",
    },
    "filling/limits.py": {"fill_step": "way, *, rows=None, halt='-'", "read_fill": "text", "fill_text": "step"},
    "filling/filled.py": {"amounts_after": "filling, book", "trace": "filling, book"},
    "filling/race.py": {
        "next_event": "filling, spot, above, below", "closed_list": "first, second", "parting_fill": "first, second",
        "alike_fills": "first, second",
    },
    "filling/places.py": {
        "must_stay": "filling", "plain_order": "filling", "needless_fills": "filling", "halting": "filling",
        "farthest": "filling",
    },
    "shares/tables.py": {"tables_with": "total, marks"},
    "shares/forms.py": {"form": "formula, marks"},
    "shares/comparing.py": {
        "same_formula": "first, second", "parting_table": "first, second", "single_share": "formula",
        "sieve_places": "part, whole, sieve",
    },
    "shares/mixing.py": {"weights": "wanted, told", "bar": "wanted, told"},
    "posting/services.py": {"single_call": "service, store, request"},
    "posting/promises.py": {
        "broken": "promise, service, plan, store, batch", "faults": "service, plan, store, batch",
    },
    "posting/verdicts.py": {
        "small_cases": "service", "least": "promise, service, plan", "held": "service, plan", "always": "plan",
        "right_sizes": "promise, service, plan, most", "repairs": "promise, service, plan",
    },
    "flows/figures.py": {"figure_of": "book, word, marks"},
    "flows/flow.py": {"figures_along": "report, rows"},
    "flows/sources.py": {"sources": "report, book", "line_sources": "report, mended"},
    "judge/letters.py": {
        "letters_of": "*reports", "grown": "book, letter", "mark_classes": "*reports", "effort": "*reports", "pipeline_effort": "pipeline",
    },
    "judge/alike.py": {
        "alike": "first, second", "parting": "first, second", "may_swap": "report, at", "needless_steps": "report",
    },
    "judge/late.py": {
        "on_time": "report", "steadfast": "report", "seen_row": "report, mark", "unseen": "report", "batched": "report",
    },
    "judge/rates.py": {"alike_rates": "first, second", "parting_rates": "first, second"},
    "judge/coming.py": {
        "coming": "pipeline", "coming_book": "pipeline, mark", "unit_book": "pipeline, mark", "is_free": "pipeline",
        "parting_sheets": "pipeline, first, second",
    },
    "papers/making.py": {
        "order_paper": HEAP, "basis_paper": "*reports", "likeness_paper": "first, second", "sources_paper": "report, book",
        "mixing_paper": "wanted, told",
    },
    "papers/reading.py": {
        "alike_by": "paper, first, second", "on_time_by": "paper, report", "steadfast_by": "paper, report",
        "unseen_by": "paper, report",
    },
}
SELF, TWO = "self", "self, other"
STEP = {"text": SELF, "__call__": "self, book", "straight": SELF}
PAPER = {"text": SELF, "examine": "self, *question", "__eq__": TWO}
METHODS = {
    "base/marks.py": {"Marks": {
        "__init__": "self, letters=''", "read": "cls, text", "text": SELF, "__len__": SELF, "__iter__": SELF,
        "__bool__": SELF, "__contains__": "self, x", "__and__": TWO, "__or__": TWO, "__sub__": TWO, "__xor__": TWO,
        "__invert__": SELF, "__le__": TWO, "__eq__": TWO,
    }},
    "base/rows.py": {"Book": {
        "__init__": "self, rows=()", "of": "cls, rows", "read": "cls, text", "text": SELF, "__len__": SELF,
        "__iter__": SELF, "__eq__": TWO, "__getitem__": "self, at", "__add__": TWO, "__or__": TWO,
        "until": "self, day", "since": "self, day", "days": SELF, "changed": "self, place, amount",
        "without": "self, place", "copied": "self, place", "swapped": "self, place",
        "followed": "self, more, *, same=False",
    }},
    "base/fracs.py": {"Frac": {
        "__init__": "self, top=0, bottom=1", "__add__": TWO, "__radd__": TWO, "__sub__": TWO, "__rsub__": TWO,
        "__mul__": TWO, "__rmul__": TWO, "__lt__": TWO, "__le__": TWO, "__gt__": TWO, "__ge__": TWO, "__eq__": TWO,
        "__neg__": SELF, "__abs__": SELF, "over": TWO, "text": SELF, "read": "cls, text", "added": "numbers",
    }},
    "base/spans.py": {"Span": {
        "grow": "self, vector", "__contains__": "self, x", "__len__": SELF, "__iter__": SELF, "__add__": TWO,
        "__eq__": TWO,
    }},
    "ledger/pages.py": {"Page": {
        "__init__": "self, lines", "of": "cls, rows, opening", "read": "cls, text", "text": SELF, "rows": SELF,
        "__len__": SELF, "__iter__": SELF, "__eq__": TWO, "__add__": TWO, "__rshift__": "self, count",
        "__lshift__": "self, count", "__abs__": SELF, "opening": SELF, "closing": SELF, "first_day": SELF,
        "last_day": SELF,
    }},
    "ledger/lots.py": {"Lots": {
        "__init__": "self, links", "of": "cls, *pages", "__iter__": SELF, "__len__": SELF, "__contains__": "self, x",
        "__getitem__": "self, at", "__add__": TWO, "__neg__": SELF, "__eq__": TWO, "__abs__": SELF,
    }},
    "ledger/mending.py": {"Mended": {
        "__init__": "self, pages, opening, closing", "sure": SELF, "source": "self, place",
    }},
    "keeping/rules.py": {"Rule": {
        "__init__": "self, terms", "read": "cls, text", "text": SELF, "ranked": SELF, "straight": SELF,
        "__call__": "self, first, second", "__iter__": SELF, "__add__": TWO, "__neg__": SELF, "__eq__": TWO,
    }},
    "keeping/keepers.py": {"Keeper": {
        "__init__": "self, manner, rule", "read": "cls, text", "text": SELF, "straight": SELF,
        "__call__": "self, book", "__eq__": TWO,
    }},
    "filling/fillings.py": {"Filling": {
        "__init__": "self, steps=()", "read": "cls, text", "text": SELF, "__len__": SELF, "__iter__": SELF, "__eq__": TWO,
        "__add__": TWO, "__mul__": TWO, "__rmul__": TWO, "__call__": "self, book",
    }},
    "filling/places.py": {"Extent": {
        "__init__": "self, amount=None", "__eq__": TWO, "__lt__": TWO, "__le__": TWO, "__add__": TWO, "__mul__": TWO,
        "__rmul__": TWO,
    }},
    "shares/tables.py": {"Table": {
        "__init__": "self, **counts", "of": "cls, *books", "__getitem__": "self, at", "__setitem__": "self, at, worth",
        "put": "self, mark, amount", "__iter__": SELF, "__add__": TWO, "__mul__": TWO, "__rmul__": TWO, "__and__": TWO,
        "__eq__": TWO, "total": SELF, "present": SELF,
    }},
    "shares/formulas.py": {"Formula": {
        "share": "part, whole", "zero": "cls", "__add__": TWO, "__sub__": TWO, "__neg__": SELF, "__mul__": TWO,
        "__rmul__": TWO, "__floordiv__": TWO, "__and__": TWO, "mean": "self, *groups", "__call__": "self, table",
    }},
    "posting/services.py": {
        "Service": {"__init__": "self, letters, grid", "last_seat": ""},
        "Store": {"__init__": "self, shared, states", "empty": "cls", "__getitem__": "self, at", "__eq__": TWO},
    },
    "posting/batches.py": {"Batch": {
        "__init__": "self, requests", "__len__": SELF, "__iter__": SELF, "__contains__": "self, x", "__eq__": TWO,
        "__getitem__": "self, at", "__add__": TWO, "__iadd__": TWO, "__mul__": TWO, "__rmul__": TWO, "__floordiv__": TWO,
    }},
    "posting/plans.py": {
        "Plan": {
            "__init__": "self, *, order='given', duplicates='keep', size=0, timing='each', refusal='continue'",
            "__eq__": TWO, "changed": "self, **options", "__call__": "self, service, store, batch",
        },
        "Reply": {
            "__iter__": SELF, "__len__": SELF, "__getitem__": "self, at", "sequence": SELF, "done": SELF, "refused": SELF,
            "skipped": SELF, "entered": SELF,
        },
    },
    "posting/verdicts.py": {"Case": {
        "__init__": "self, batch, store", "batch": SELF, "__eq__": TWO, "__lt__": TWO, "__le__": TWO,
    }},
    "flows/steps.py": {
        "Step": {"read": "text", "__eq__": TWO},
        "Sift": {"__init__": "self, marks", **STEP}, "Rename": {"__init__": "self, marks, mark", **STEP},
        "Keep": {"__init__": "self, keeper", **STEP}, "Fill": {"__init__": "self, limits", **STEP}, "Run": STEP,
        "Change": STEP, "Total": {"__init__": "self, mark", **STEP}, "Against": {"__init__": "self, marks, mark", **STEP},
        "Times": {"__init__": "self, factor", **STEP},
    },
    "flows/pipelines.py": {"Pipeline": {
        "__init__": "self, steps=()", "read": "cls, text", "text": SELF, "__len__": SELF, "__iter__": SELF, "__eq__": TWO,
        "__getitem__": "self, at", "__add__": TWO, "without": "self, at", "swapped": "self, at", "straight": SELF,
        "__call__": "self, book", "along": "self, book",
    }},
    "flows/figures.py": {
        "Report": {
            "__init__": "self, pipeline, word, marks", "read": "cls, text", "text": SELF, "__eq__": TWO, "straight": SELF,
            "__call__": "self, book", "on": "self, books", "with_steps": "self, pipeline",
        },
        "Rate": {"__init__": "self, top, bottom", "read": "cls, text", "text": SELF, "__eq__": TWO, "__call__": "self, books"},
        "Sheet": {"__init__": "self, pipeline, formula", "table": "self, books", "__call__": "self, books"},
    },
    "flows/flow.py": {"Flow": {
        "__init__": "self, report", "take": "self, row", "taken": SELF, "figure": SELF, "copy": SELF,
    }},
    "judge/bases.py": {"Basis": {
        "__init__": "self, *reports", "__len__": SELF, "__iter__": SELF, "shadow": "self, book", "matrix": "self, letter", "tests": SELF,
    }},
    "judge/moves.py": {"Move": {"__init__": "self, report, way, low, high", "farther": "self, count"}},
    "desk/desks.py": {"Desk": {
        "__init__": SELF, "see": "self, day", "depth": SELF, "__len__": SELF, "__iter__": SELF, "__contains__": "self, x",
        "begin": "self, name, service=None", "enter": "self, name, rows", "__iadd__": TWO, "amend": "self, name, place, row",
        "__getitem__": "self, at", "__setitem__": "self, at, worth", "strike": "self, name, place",
        "deliver": "self, name, pages, opening, closing, *, most=0", "post": "self, name, plan, batch",
        "file": "self, name, question", "withdraw": "self, name", "together": "self, deeds", "undo": SELF, "book_of": "self, name",
        "store_of": "self, name", "questions": SELF, "value": "self, name", "lines": SELF, "trial": SELF, "tried": "self, deeds",
    }},
    "papers/kinds.py": {
        "Paper": {"read": "text"}, "OrderPaper": {"__init__": "self, order, prices", **PAPER},
        "BasisPaper": {"__init__": "self, books, start, shadows", **PAPER}, "PartingPaper": {"__init__": "self, book", **PAPER},
        "SourcesPaper": {"__init__": "self, constant, weights", **PAPER}, "MixturePaper": {"__init__": "self, weights", **PAPER},
        "BarPaper": {"__init__": "self, bar", **PAPER},
    },
}
# Methods that are not plain, by their names, in all classes or in one.
DECORATED = {"read": "classmethod", "of": "classmethod", "added": "staticmethod", "opening": "property",
             "closing": "property", "first_day": "property", "last_day": "property", "sure": "property",
             "ranked": "property", "straight": "property", "total": "property", "present": "property",
             "share": "staticmethod", "zero": "classmethod", "last_seat": "staticmethod", "empty": "classmethod",
             "sequence": "property", "done": "property", "refused": "property", "skipped": "property",
             "entered": "property", "batch": "property", "Step.read": "staticmethod", "Paper.read": "staticmethod",
             "depth": "property", "taken": "property", "figure": "property"}


def defined(body, kind):
    return {node.name: node for node in body if isinstance(node, kind)}


def tree_of(name):
    return ast.parse((ROOT / name).read_text())


class InterfaceTest(unittest.TestCase):
    def test_functions(self):
        for name, functions in FUNCTIONS.items():
            here = defined(tree_of(name).body, ast.FunctionDef)
            for function, arguments in functions.items():
                with self.subTest(function=function):
                    self.assertEqual(arguments, ast.unparse(here[function].args))

    def test_methods_stand_in_the_bodies_of_their_classes(self):
        for name, classes in METHODS.items():
            here = defined(tree_of(name).body, ast.ClassDef)
            for kind, methods in classes.items():
                body = defined(here[kind].body, ast.FunctionDef)
                for method, arguments in methods.items():
                    with self.subTest(kind=kind, method=method):
                        self.assertEqual(arguments, ast.unparse(body[method].args))
                        mark = DECORATED.get(f"{kind}.{method}", DECORATED.get(method))
                        marks = [] if mark is None else [mark]
                        self.assertEqual(marks, [ast.unparse(mark) for mark in body[method].decorator_list])

    def test_the_day_of_a_desk(self):
        body = defined(tree_of("desk/desks.py").body, ast.ClassDef)["Desk"].body
        found = [node for node in body if isinstance(node, ast.FunctionDef) and node.name == "day"]
        self.assertEqual(["self", "self, value"], [ast.unparse(node.args) for node in found])
        self.assertEqual([["property"], ["day.setter"]], [[ast.unparse(mark) for mark in node.decorator_list] for node in found])

    def test_kinds_of_papers(self):
        classes = [node for node in tree_of("papers/kinds.py").body if isinstance(node, ast.ClassDef)]
        self.assertEqual(["Paper"] * 6, [ast.unparse(node.bases[0]) for node in classes[1:]])


if __name__ == "__main__":
    unittest.main()
