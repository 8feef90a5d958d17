"""What the document promises of every call: points 3 and 2, over the whole program."""

import unittest
from pathlib import Path

from support import BureauCase

from pagebureau.base.errors import BureauError
from pagebureau.base.fracs import Frac
from pagebureau.base.marks import Marks
from pagebureau.base.rows import Book, is_row, row_text
from pagebureau.base.spans import Span
from pagebureau.filling.filled import amounts_after, trace
from pagebureau.filling.fillings import Filling
from pagebureau.filling.limits import fill_text
from pagebureau.filling.places import Extent, farthest, halting, must_stay, needless_fills, plain_order
from pagebureau.filling.race import alike_fills, closed_list, next_event, parting_fill
from pagebureau.flows.figures import Rate, Report, Sheet, figure_of
from pagebureau.flows.flow import Flow, figures_along
from pagebureau.flows.pipelines import Pipeline
from pagebureau.flows.sources import line_sources, sources
from pagebureau.flows.steps import Step
from pagebureau.judge.alike import alike, may_swap, needless_steps, parting
from pagebureau.judge.bases import Basis
from pagebureau.judge.coming import coming, coming_book, is_free, parting_sheets, unit_book
from pagebureau.judge.late import batched, on_time, seen_row, steadfast, unseen
from pagebureau.judge.letters import effort, grown, letters_of, mark_classes, pipeline_effort
from pagebureau.judge.moves import Move
from pagebureau.judge.rates import alike_rates, parting_rates
from pagebureau.keeping.asking import kept_up, lost, same_kept, steady
from pagebureau.keeping.keepers import Keeper, keep_up, kept_along, kept_places
from pagebureau.keeping.rules import Rule
from pagebureau.ledger.heaps import fewest, gaps, prices, stages, toll
from pagebureau.ledger.lots import Lots, parting_links
from pagebureau.ledger.mending import Mended, copies, lean
from pagebureau.ledger.misread import readings, spares
from pagebureau.ledger.orders import first_order, followers, losses, orders, stage_ends
from pagebureau.ledger.pages import Page
from pagebureau.papers.kinds import BarPaper, BasisPaper, MixturePaper, OrderPaper, Paper, PartingPaper, SourcesPaper
from pagebureau.papers.making import basis_paper, likeness_paper, mixing_paper, order_paper, sources_paper
from pagebureau.papers.reading import alike_by, on_time_by, steadfast_by, unseen_by
from pagebureau.posting.batches import Batch
from pagebureau.posting.plans import Plan
from pagebureau.posting.promises import broken, faults
from pagebureau.posting.services import Service, Store, single_call
from pagebureau.posting.verdicts import Case, always, held, least, repairs, right_sizes, small_cases
from pagebureau.shares.comparing import parting_table, same_formula, sieve_places, single_share
from pagebureau.shares.formulas import Formula
from pagebureau.shares.forms import form
from pagebureau.shares.mixing import bar, weights
from pagebureau.shares.tables import Table, tables_with

ROOT = Path(__file__).resolve().parent.parent / "pagebureau"


def told(thing):
    """What can be seen of a thing, also by a reader who goes through its fields."""
    if isinstance(thing, (list, tuple)):
        return (type(thing).__name__, [told(each) for each in thing])
    if isinstance(thing, dict):
        return ("dict", [(told(key), told(each)) for key, each in thing.items()])
    if isinstance(thing, (Marks, Frac, Keeper, Rule, Report, Rate, Filling, Step, Pipeline, Paper)):
        return (type(thing).__name__, thing.text() if hasattr(thing, "text") else list(thing))
    if isinstance(thing, (Book, Page, Batch, Table, Basis, Span)):
        return (type(thing).__name__, [told(each) for each in thing])
    if hasattr(thing, "__dict__"):
        return (type(thing).__name__, [(name, told(each)) for name, each in vars(thing).items() if not name.startswith("_")])
    return thing


def spoil(thing):
    """Changes all that can be changed of a returned thing."""
    if isinstance(thing, (list, tuple)):
        for each in thing:
            spoil(each)
    if isinstance(thing, list):
        thing.append("spoilt")
        thing.reverse()
    if isinstance(thing, dict):
        thing.clear()
    if isinstance(thing, Table):
        thing["a"] = thing["a"] + 1
    if isinstance(thing, Batch):
        thing += Batch([(0, "f", 0)])
    if isinstance(thing, Span):
        thing.grow((5, 7, 1))


ROWS = [(0, "a", 3), (0, "b", None), (1, "a", 1)]
PAGES = [Page([(1, "a", 5, 5)]), Page([(1, "b", 2, 7)]), Page([(1, "b", 2, 7)]), Page([(2, "a", None, 9)])]
STEPS = "sift ab\nfill down rows 1"


def share(part="a", whole="ab"):
    return Formula.share(Marks(part), Marks(whole))


def service():
    return Service("a", [[[(7, 1, 0)]], [[(-1, 1, 0)]]])


def of_text(kind, text):
    return lambda: kind.read(text)


def report(text=STEPS + "\nsum a"):
    return Report.read(text)


# Calls, each with a function that makes its arguments.
CALLS = [
    (Marks, lambda: ["ba"]), (Book, lambda: [list(ROWS)]), (Book.of, lambda: [list(ROWS[::-1])]), (is_row, lambda: [[0, "a", 1]]), (row_text, lambda: [ROWS[0]]),
    (Page, lambda: [[(1, "a", 2, 3)]]), (Page.of, lambda: [list(ROWS), 3]), (Lots, lambda: [[(1, 2), (2, 3)]]), (Lots.of, lambda: PAGES), (Rule, lambda: [[("full",), ("in", "a")]]),
    (Filling, lambda: [[("down", 1, "-")]]), (Pipeline, lambda: [[Step.read("run")]]), (Batch, lambda: [list(ROWS)]), (Store, lambda: [0, {3: 1}]), (OrderPaper, lambda: [[0], [[(1, 2)]]]),
    (Service, lambda: ["a", [[[(7, 1, 0)]], [[(-1, 1, 0)]]]]), (BasisPaper, lambda: [[Book()], [1], [[[1]] * 6]]), (PartingPaper, lambda: [Book(ROWS)]), (SourcesPaper, lambda: [1, [(0, 1)]]),
    (MixturePaper, lambda: [[1, Frac(1, 2)]]), (BarPaper, lambda: [[(1, Table(a=1))]]), (Frac.added, lambda: [[1, Frac(1, 2)]]),
    (lambda book: book.days(), lambda: [Book(ROWS)]), (lambda a, b: a | b, lambda: [Book(ROWS), Book(ROWS)]), (lambda book: list(book.changed(0, 5)), lambda: [Book(ROWS)]),
    (lambda page: page.rows(), lambda: [PAGES[0]]), (lambda a, b: a + b, lambda: [Span(3), Span(3)]), (list, lambda: [Lots([(1, 2), (5, 6)])]),
    (lambda a, b: list(a + b), lambda: [Lots([(1, 2)]), Lots([(2, 1)])]), (parting_links, lambda: [Lots([(1, 2)]), Lots([(2, 1)])]),
    (stages, lambda: [list(PAGES)]), (gaps, lambda: [list(PAGES), 0, 9, [0, 1, 2, 3]]), (fewest, lambda: [list(PAGES), 0, 9]), (prices, lambda: [list(PAGES), 9]),
    (toll, lambda: [[(1, 2), (2, 3)], [(3, 0), (4, 1)], 1]), (first_order, lambda: [list(PAGES), 0, 9]), (orders, lambda: [list(PAGES), 0, 9]), (followers, lambda: [list(PAGES), 0, 9]),
    (losses, lambda: [list(PAGES), 0, 9]), (stage_ends, lambda: [list(PAGES), 0, 9]), (copies, lambda: [list(PAGES)]), (lean, lambda: [list(PAGES), 0, 9]), (Mended, lambda: [list(PAGES), 0, 9]),
    (readings, lambda: [[(1, "a", 4, 8)], 3, 8]), (spares, lambda: [list(PAGES), 0, 9]),
    (kept_places, lambda: [Keeper.read("none: full"), list(ROWS), [2, 1, 0]]), (kept_along, lambda: [Keeper.read("over: full"), list(ROWS)]),
    (keep_up, lambda: [Keeper.read("hold: full"), [list(ROWS), list(ROWS)]]), (steady, lambda: [Keeper.read("over: -")]), (lost, lambda: [Keeper.read("none: most stop")]),
    (same_kept, lambda: [Keeper.read("over: -"), Keeper.read("hold: -")]), (kept_up, lambda: [Keeper.read("none: most stop, full")]),
    (fill_text, lambda: [("down", 1, "-")]), (amounts_after, lambda: [Filling.read("down"), Book(ROWS)]), (trace, lambda: [Filling.read("down"), Book(ROWS)]),
    (next_event, lambda: [Filling.read("down"), (0, 0), "a", None]), (closed_list, lambda: [Filling.read("down"), Filling.read("down\ndown")]),
    (parting_fill, lambda: [Filling.read("down"), Filling.read("up")]), (alike_fills, lambda: [Filling.read("down"), Filling.read("up")]), (must_stay, lambda: [Filling.read("down rows 1\nup")]),
    (plain_order, lambda: [Filling.read("up\ndown")]), (needless_fills, lambda: [Filling.read("up\nup")]), (halting, lambda: [Filling.read("up halt a")]), (farthest, lambda: [Filling.read("up\ndown rows 2")]),
    (Table.of, lambda: [Book(ROWS)]), (lambda a, b: a + b, lambda: [Table(a=1), Table(b=2)]), (lambda a: 3 * a, lambda: [Table(a=1)]), (lambda a: a & Marks("a"), lambda: [Table(a=1, b=2)]),
    (lambda total, marks: list(tables_with(total, marks)), lambda: [2, Marks("ab")]), (lambda formula, table: formula(table), lambda: [share(), Table(a=1, b=2)]), (form, lambda: [share(), Marks("abc")]),
    (parting_table, lambda: [share(), share("b")]), (same_formula, lambda: [share(), share("b")]), (single_share, lambda: [share()]), (sieve_places, lambda: [Marks("a"), Marks("ab"), Marks("b")]),
    (weights, lambda: [share(), [share("ab"), share("b")]]), (bar, lambda: [share(), [share("b")]]),
    (single_call, lambda: [service(), Store.empty(), ROWS[0]]), (lambda a, b: a + b, lambda: [Batch(ROWS), Batch(ROWS)]), (lambda a: a // 2, lambda: [Batch(ROWS)]), (lambda a: a * 2, lambda: [Batch(ROWS)]),
    (lambda plan, *more: plan(*more), lambda: [Plan(timing="ahead"), service(), Store(0, {0: 0}), Batch([ROWS[0], ROWS[2]])]),
    (lambda plan, *more: [list(plan(*more)), plan(*more).sequence, plan(*more).done, plan(*more).entered], lambda: [Plan(), service(), Store.empty(), Batch([ROWS[0], ROWS[2]])]),
    (broken, lambda: ["serial", service(), Plan(), Store.empty(), Batch([ROWS[0]] * 2)]), (faults, lambda: [service(), Plan(timing="ahead"), Store.empty(), Batch([ROWS[0]] * 2)]),
    (least, lambda: ["serial", service(), Plan(timing="ahead")]), (held, lambda: [service(), Plan()]), (always, lambda: [Plan()]), (right_sizes, lambda: ["serial", service(), Plan(), 3]),
    (repairs, lambda: ["sequential", service(), Plan(timing="ahead")]), (lambda some: list(small_cases(some))[:9], lambda: [service()]), (lambda case: case.batch, lambda: [Case(Batch(ROWS), Store.empty())]),
    (lambda pipeline, book: pipeline(book), lambda: [Pipeline.read(STEPS), Book(ROWS)]), (lambda pipeline, book: list(pipeline.along(book)), lambda: [Pipeline.read(STEPS), Book(ROWS)]),
    (figure_of, lambda: [Book(ROWS), "sum", Marks("a")]), (lambda some, books: some.on(books), lambda: [report(), [Book(ROWS), Book()]]),
    (lambda some, books: some(books), lambda: [Rate.read("sum a\nper\ncount a"), [Book(ROWS), Book()]]), (lambda sheet, books: [sheet(books), sheet.table(books)], lambda: [Sheet(Pipeline(), share()), [Book(ROWS)]]),
    (figures_along, lambda: [report(), list(ROWS)]), (Flow, lambda: [report()]), (sources, lambda: [report(), Book(ROWS)]), (line_sources, lambda: [report(), Mended(PAGES, 0, 9)]),
    (letters_of, lambda: [report()]), (mark_classes, lambda: [report(), report("count abc")]), (grown, lambda: [Book(ROWS), "+a1"]), (effort, lambda: [report()]), (pipeline_effort, lambda: [Pipeline.read(STEPS)]),
    (Basis, lambda: [report()]), (list, lambda: [Basis(report())]), (lambda basis: [basis.shadow(Book(ROWS)), basis.matrix("=a1"), basis.tests()], lambda: [Basis(report())]),
    (alike, lambda: [report(), report("count a")]), (parting, lambda: [report(), report("count a")]), (may_swap, lambda: [report(), 0]), (needless_steps, lambda: [report()]),
    (on_time, lambda: [report()]), (steadfast, lambda: [report()]), (seen_row, lambda: [report(), "a"]), (unseen, lambda: [report()]), (batched, lambda: [report("run\nsum a")]),
    (alike_rates, lambda: [Rate.read("sum a\nper\ncount a")] * 2), (parting_rates, lambda: [Rate.read("sum a\nper\ncount a"), Rate.read("sum b\nper\ncount a")]), (coming, lambda: [Pipeline.read(STEPS)]),
    (coming_book, lambda: [Pipeline.read(STEPS), "a"]), (unit_book, lambda: [Pipeline.read(STEPS), "a"]), (is_free, lambda: [Pipeline.read(STEPS)]),
    (parting_sheets, lambda: [Pipeline.read(STEPS), share(), share("b")]), (Move, lambda: [report(), "late", 0, 1]), (lambda move: move.farther(1), lambda: [Move(report(), "late", 0, 1)]),
    (order_paper, lambda: [list(PAGES[:2]), 0, 7]), (basis_paper, lambda: [report()]), (likeness_paper, lambda: [report(), report("count a")]), (sources_paper, lambda: [report(), Book(ROWS)]),
    (mixing_paper, lambda: [share(), [share("ab"), share("b")]]), (mixing_paper, lambda: [share(), [share("b")]]),
    (lambda paper, *more: paper.examine(*more), lambda: [order_paper(PAGES[:2], 0, 7), list(PAGES[:2]), 0, 7]), (lambda paper, *more: paper.examine(*more), lambda: [basis_paper(report()), report()]),
    (lambda paper, *more: paper.examine(*more), lambda: [mixing_paper(share(), [share("b")]), share(), [share("b")]]), (alike_by, lambda: [basis_paper(report()), report(), report()]),
    (on_time_by, lambda: [basis_paper(report()), report()]), (steadfast_by, lambda: [basis_paper(report()), report()]), (unseen_by, lambda: [basis_paper(report()), report()]),
]

# Calls that raise, which change nothing of what they are passed.
BAD = [
    (Book, lambda: [[*ROWS, (0, "a", 1)]]), (Book.of, lambda: [[*ROWS, (0, "a", True)]]), (Page, lambda: [[(1, "a", 2, 3), (1, "a", 2, 3)]]), (gaps, lambda: [list(PAGES), 0, 9, [3, 0]]),
    (lambda a, b: a + b, lambda: [Book(ROWS), Book(ROWS)]), (lambda span: span.grow((1, 2)), lambda: [Span(3)]), (kept_places, lambda: [Keeper.read("over: -"), list(ROWS), [0, 0]]),
    (Rule, lambda: [[("full",), ("in",)]]), (Filling, lambda: [[("down", 0, "-")]]), (lambda table: table.put("a", -1), lambda: [Table(a=1)]), (lambda table: table.put("g", 1), lambda: [Table(a=1)]),
    (lambda table: -1 * table, lambda: [Table(a=1)]), (lambda flow: flow.take((0, "a", True)), lambda: [Flow(report())]), (lambda plan, *more: plan(*more), lambda: [Plan(), service(), Store(7, {}), Batch(ROWS)]),
    (lambda plan, *more: plan(*more), lambda: [Plan(), service(), Store.empty(), Batch(ROWS)]), (lambda plan: plan.changed(size=41), lambda: [Plan()]),
    (lambda pipeline: pipeline.without(5), lambda: [Pipeline.read(STEPS)]), (may_swap, lambda: [report(), 1]), (lambda a: a * 3, lambda: [Filling.read("up\nup\nup")]),
    (lambda a: a.mean(*[Marks("a")] * 6), lambda: [share() + share() + share()]), (weights, lambda: [share(), [share().mean(*[Marks("a")] * 6)] * 2]),
    (Basis, lambda: [report("keep none: -\ncount a")]), (lambda paper, *more: paper.examine(*more), lambda: [OrderPaper([1, 0], []), PAGES[:2], 0, 7]),
    (lambda paper, *more: paper.examine(*more), lambda: [MixturePaper([1, 2]), share(), [share()]]), (on_time_by, lambda: [BasisPaper([Book()], [1], []), report()]),
]


class CallsTest(BureauCase):
    def test_what_is_passed_and_what_is_returned(self):
        for at, (call, arguments) in enumerate(CALLS):
            with self.subTest(at=at, call=call):
                given = arguments()
                before = told(given)
                result = call(*given)
                result = list(result) if type(result).__name__ == "generator" else result
                self.assertEqual(before, told(given))
                first = told(result)
                spoil(result)
                again = call(*given)
                again = list(again) if type(again).__name__ == "generator" else again
                self.assertEqual(first, told(again))
                self.assertEqual(before, told(given))

    def test_tuples_for_lists(self):
        for at, (call, arguments) in enumerate(CALLS):
            with self.subTest(at=at, call=call):
                given, other = arguments(), [tuple(each) if type(each) is list else each for each in arguments()]
                if call is is_row:
                    continue
                results = [call(*given), call(*other)]
                results = [list(result) if type(result).__name__ == "generator" else result for result in results]
                self.assertEqual(told(results[0]), told(results[1]))

    def test_calls_that_raise(self):
        for at, (call, arguments) in enumerate(BAD):
            with self.subTest(at=at, call=call):
                given = arguments()
                before = told(given)
                with self.assertRaises(BureauError):
                    result = call(*given)
                    list(result)
                self.assertEqual(before, told(given))

    def test_objects_copy_what_they_are_given(self):
        for kind, arguments in [(kind, arguments) for kind, arguments in CALLS if isinstance(kind, type) and kind not in (list, Flow, Basis, Move, Mended)]:
            with self.subTest(kind=kind):
                given = arguments()
                thing = kind(*given)
                before = told(thing)
                for each in given:
                    spoil(each)
                self.assertEqual(before, told(thing))


class EqualityTest(BureauCase):
    def test_beside_things_of_other_classes(self):
        things = [
            Marks("a"), Book(), Book(ROWS), Frac(1), Span(3), PAGES[0], Lots([]), Rule([]), Keeper.read("over: -"), Filling(), Extent(1), Table(), Store.empty(), Batch([]), Batch(ROWS), Plan(),
            Case(Batch(ROWS), Store.empty()), Step.read("run"), Pipeline(), report("count a"), Rate.read("count a\nper\ncount a"), *[Paper.read(text) for text in ("bar", "mixture\nweights")],
        ]
        others = [None, "", "a", [], (), {}, list(ROWS), True, 3, object()]
        for at, thing in enumerate(things):
            classes = [other for k, other in enumerate(things) if k != at]
            mine = [*classes, *others, type(thing)]
            if isinstance(thing, Frac):
                mine = [other for other in mine if other is not True]
            self.assert_unequal_to_others(thing, mine)
            self.assertTrue(thing == thing)


class PartsTest(unittest.TestCase):
    def test_each_part_uses_only_earlier_ones(self):
        parts = ["base", "ledger", "keeping", "filling", "shares", "posting", "flows", "judge", "desk", "papers"]
        folders = sorted(path.name for path in ROOT.iterdir() if path.is_dir() and path.name != "__pycache__")
        self.assertEqual(sorted(parts), folders)
        for at, part in enumerate(parts):
            for path in (ROOT / part).glob("*.py"):
                used = {line.split(".")[1] for line in path.read_text().split("\n") if line.startswith("from pagebureau.")}
                self.assertLessEqual(used, set(parts[:at + 1]), path)


if __name__ == "__main__":
    unittest.main()
