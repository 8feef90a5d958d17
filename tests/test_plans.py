import random
import unittest

from posting_walk import Told, Walked, all_plans, random_requests, random_state, random_told, store_of
from support import BureauCase

from pagebureau.base.errors import BadPlan, NoRow
from pagebureau.base.fracs import Frac
from pagebureau.base.rows import Book
from pagebureau.posting.batches import Batch
from pagebureau.posting.plans import Plan
from pagebureau.posting.services import Service, Store

# Requests with this mark count up to 2 and are refused then.
COUNTER = Told("a", [[[(0, 1, 0)]], [[(1, 2, 0)]], [[(-1, 2, 0)]]])
# The day of a request with mark a is open for mark b from then on; mark b is refused before.
OPENER = Told("ab", [[[(1, 0, 1), (-1, 0, 0)], [(2, 0, 1), (3, 0, 1)]]])


def posted(told, requests, state=(0, {}), **options):
    return Plan(**options)(told.service, store_of(state), Batch(requests))


class MakingTest(BureauCase):
    def test_options(self):
        plan = Plan()
        self.assertEqual(("given", "keep", 0, "each", "continue"), (plan.order, plan.duplicates, plan.size, plan.timing, plan.refusal))
        plan = Plan(refusal="stop", timing="ahead", size=40, duplicates="newest", order="by_day")
        self.assertEqual(("by_day", "newest", 40, "ahead", "stop"), (plan.order, plan.duplicates, plan.size, plan.timing, plan.refusal))
        self.assertEqual(40, Plan.LARGEST)
        self.assertEqual(3 * 4 * 41 * 2 * 3, len(all_plans(range(41))))

    def test_options_are_passed_by_name(self):
        with self.assertRaises(TypeError):
            Plan("given")

    BAD = {
        "order": ("", "keep", "Given", "by day", None, 0, True, ["given"], ("given",)),
        "duplicates": ("", "given", "all", None, 1, ["keep"]),
        "size": (-1, 41, 10 ** 30, True, False, None, "1", 1.0, [1], Frac(1)),
        "timing": ("", "later", "keep", None, 0, ["each"]),
        "refusal": ("", "roll", "continue ", None, True, ["stop"]),
    }

    def test_unlisted_values(self):
        for option, values in self.BAD.items():
            for value in values:
                self.assert_raises(BadPlan, (option,), Plan, **{option: value})
                self.assert_raises(BadPlan, (option,), Plan().changed, **{option: value})

    def test_the_first_option_in_order_decides(self):
        names = list(self.BAD)
        for at, option in enumerate(names):
            wrong = {name: self.BAD[name][0] for name in reversed(names[at:])}
            self.assert_raises(BadPlan, (option,), Plan, **wrong)
            self.assert_raises(BadPlan, (option,), Plan().changed, **wrong)

    def test_changed_plans(self):
        plan = Plan(size=3, order="reversed")
        self.assertEqual(Plan(size=3, order="reversed", timing="ahead"), plan.changed(timing="ahead"))
        self.assertEqual(Plan(size=0, order="by_day", refusal="stop"), plan.changed(refusal="stop", size=0, order="by_day"))
        self.assertEqual(plan, plan.changed())
        self.assertIsNot(plan, plan.changed())
        self.assertEqual((3, "reversed", "each"), (plan.size, plan.order, plan.timing))

    def test_names_that_are_no_options_come_before_values(self):
        self.assert_raises(BadPlan, ("sizes",), Plan().changed, sizes=1)
        self.assert_raises(BadPlan, ("mode",), Plan().changed, size=-1, mode=1, order="x", other=2)
        self.assert_raises(BadPlan, ("options",), Plan().changed, order=None, options=1)

    def test_equality(self):
        plans = all_plans()
        for at in range(0, len(plans), 17):
            self.assertEqual([at], [k for k, plan in enumerate(plans) if plan == plans[at]])
        self.assertTrue(Plan() == Plan(size=0))
        self.assert_unequal_to_others(Plan(), [None, 0, "given", {}, Service.last_seat()])


class PostingTest(BureauCase):
    def assert_as_walked(self, told, plan, state, requests):
        walked = Walked(told, plan, state, requests)
        batch = Batch(requests)
        reply = plan(told.service, store_of(state), batch)
        answers = walked.answers
        self.assertEqual(answers, list(reply))
        self.assertEqual(answers, [reply[place] for place in range(len(reply))])
        self.assertEqual(walked.sequence, reply.sequence)
        self.assertEqual(walked.entered, reply.entered)
        self.assertEqual(Book(walked.book), reply.book)
        self.assertTrue(store_of(walked.state) == reply.store)
        self.assertEqual([k for k, answer in enumerate(answers) if answer is not None and answer >= 0], reply.done)
        self.assertEqual([k for k, answer in enumerate(answers) if answer is not None and answer < 0], reply.refused)
        self.assertEqual([k for k, answer in enumerate(answers) if answer is None], reply.skipped)
        self.assertEqual(list(range(len(requests))), sorted(reply.sequence))
        self.assertEqual(requests, list(batch))
        return reply

    def test_every_plan_on_small_batches(self):
        source = random.Random(971)
        for plan in all_plans((0, 1, 2, 3, 40)):
            for _ in range(12):
                told = random_told(source)
                requests = random_requests(source, told.letters, 7, (0, 1, 2)[:source.randint(1, 3)])
                self.assert_as_walked(told, plan, random_state(source, told), requests)

    def test_every_plan_on_one_batch_with_alike_requests_and_refusals(self):
        requests = [(1, "b", 1), (0, "a", 2), (1, "a", 3), (1, "b", None), (0, "b", 5), (0, "a", None), (1, "a", 7)]
        for plan in all_plans((0, 1, 2, 3, 7, 8)):
            self.assert_as_walked(OPENER, plan, (0, {}), requests)
            self.assert_as_walked(OPENER, plan, (0, {1: 1}), requests[::-1])
            self.assert_as_walked(COUNTER, plan, (0, {}), [(day, "a", amount) for day, _, amount in requests])

    def test_each_and_continue(self):
        reply = posted(COUNTER, [(5, "a", 1), (0, "a", 2), (9, "a", 3), (9, "a", 4)])
        self.assertEqual([0, 1, -1, -1], list(reply))
        self.assertEqual(([0, 1], [2, 3], []), (reply.done, reply.refused, reply.skipped))
        self.assertEqual([(5, "a", 1), (0, "a", 2)], reply.entered)
        self.assertEqual([(0, "a", 2), (5, "a", 1)], list(reply.book))

    def test_orders(self):
        requests = [(5, "a", 1), (0, "a", 2), (5, "a", 3)]
        self.assertEqual([0, 1, -1], list(posted(COUNTER, requests)))
        self.assertEqual([-1, 1, 0], list(posted(COUNTER, requests, order="reversed")))
        self.assertEqual([1, 0, -1], list(posted(COUNTER, requests, order="by_day")))
        self.assertEqual([1, 0, 2], posted(COUNTER, requests, order="by_day").sequence)
        self.assertEqual([0, 1, 2], posted(COUNTER, requests, order="by_day", size=1).sequence)
        self.assertEqual([1, 0, 2], posted(COUNTER, requests, order="reversed", size=2).sequence)

    def test_duplicates(self):
        requests = [(0, "a", 1), (0, "b", 2), (0, "a", 3), (1, "a", 4)]
        for duplicates, answers, sequence, entered in [
            ("keep", [1, 3, 2, 1], [0, 1, 2, 3], requests), ("first", [1, 3, 1, 1], [0, 2, 1, 3], [requests[0], requests[1], requests[3]]),
            ("last", [1, -1, 1, 1], [1, 2, 0, 3], [requests[2], requests[3]]), ("newest", [1, 1, 1, 1], [2, 0, 1, 3], [requests[2], requests[3]]),
        ]:
            reply = posted(OPENER, requests, duplicates=duplicates)
            self.assertEqual((answers, sequence, entered), (list(reply), reply.sequence, reply.entered))

    def test_alike_requests_in_other_chunks_are_no_duplicates(self):
        reply = posted(COUNTER, [(0, "a", 1)] * 4, duplicates="first", size=2)
        self.assertEqual([0, 0, 1, 1], list(reply))
        self.assertEqual([0, 1, 2, 3], reply.done)

    def test_stop(self):
        requests = [(0, "b", 1), (0, "a", 2), (0, "b", 3)]
        self.assertEqual([-1, None, None], list(posted(OPENER, requests, refusal="stop")))
        four = [(0, "b", 1), (0, "a", 2), (1, "b", 3), (0, "b", 4)]
        self.assertEqual([-1, None, None, None], list(posted(OPENER, four, refusal="stop", size=1)))
        self.assertEqual([3, 1, -1, 3], list(posted(OPENER, four, refusal="stop", order="reversed", size=2)))
        self.assertEqual([None, None, -1, 3], list(posted(OPENER, four, (0, {0: 1}), refusal="stop", order="reversed")))
        self.assertEqual([-1, 1, -1], list(posted(OPENER, requests, refusal="continue", timing="ahead")))
        reply = posted(OPENER, requests, refusal="stop", timing="ahead", order="reversed")
        self.assertEqual(([None, None, -1], [2, 1, 0]), (list(reply), reply.sequence))

    def test_rollback(self):
        requests = [(0, "a", 1), (1, "b", 2), (2, "b", 3), (3, "a", 4)]
        for timing, size, answers, store in [
            ("each", 0, [None, -1, None, None], {}), ("ahead", 0, [None, -1, -1, None], {}),
            ("each", 2, [None, -1, -1, None], {}), ("each", 1, [1, -1, -1, 1], {0: 1, 3: 1}), ("ahead", 3, [None, -1, -1, 1], {3: 1}),
        ]:
            reply = posted(OPENER, requests, refusal="rollback", timing=timing, size=size)
            self.assertEqual(answers, list(reply))
            self.assertEqual(Store(0, store), reply.store)

    def test_applying_takes_over_the_next_states_of_the_present_store(self):
        # Both are looked up in state 0; the second one is applied in state 1.
        reply = posted(COUNTER, [(0, "a", 1), (1, "a", 2), (2, "a", 3)], timing="ahead")
        self.assertEqual([0, 0, 0], list(reply))
        self.assertEqual(2, reply.store.shared)
        self.assertEqual([(0, "a", 1), (1, "a", 2), (2, "a", 3)], reply.entered)

    def test_duplicates_of_skipped_and_of_refused_requests(self):
        requests = [(0, "b", 1), (0, "b", 2), (1, "a", 3), (1, "a", 4)]
        reply = posted(OPENER, requests, duplicates="last", refusal="stop")
        self.assertEqual(([-1, -1, None, None], [1, 0, 3, 2]), (list(reply), reply.sequence))
        self.assertEqual(([], [0, 1], [2, 3]), (reply.done, reply.refused, reply.skipped))

    def test_empty_batches(self):
        for plan in all_plans():
            reply = self.assert_as_walked(COUNTER, plan, (1, {4: 0}), [])
            self.assertEqual(([], [], 0, Book()), (list(reply), reply.sequence, len(reply), reply.book))

    def test_200_requests(self):
        source = random.Random(972)
        told = random_told(source, 3, 4, 3)
        requests = [(source.randint(0, 30), source.choice(told.letters), k) for k in range(200)]
        for plan in all_plans((0, 7, 39, 40)):
            self.assert_as_walked(told, plan, (0, {}), requests)


class ReplyTest(BureauCase):
    def test_items(self):
        reply = posted(COUNTER, [(0, "a", 1), (0, "a", 2), (0, "a", 3)], refusal="stop", order="reversed")
        self.assertEqual(([-1, 1, 0], 3), ([reply[place] for place in range(3)], len(reply)))
        for place in (-1, 3, 10 ** 30, -3):
            self.assert_raises(NoRow, (place,), lambda: reply[place])
        self.assert_raises(NoRow, (0,), lambda: posted(COUNTER, [])[0])

    def test_a_reply_stays_as_it_is(self):
        batch, plan, store = Batch([(0, "a", 1)]), Plan(), Store.empty()
        reply = plan(COUNTER.service, store, batch)

        def told():
            return [list(reply), len(reply), reply.sequence, reply.done, reply.entered, list(reply.book), reply.store.shared]

        before = told()
        plan(COUNTER.service, reply.store, batch)
        batch += Batch([(3, "a", 2)] * 3)
        plan(COUNTER.service, store, batch)
        self.assertEqual(before, told())
        self.assertEqual((0, Store.empty()), (store.shared, store))

    def test_lists_that_their_reader_changes(self):
        reply = posted(COUNTER, [(0, "a", 1), (0, "a", 2), (0, "a", 3)])
        for name in ("sequence", "done", "refused", "entered"):
            before = list(getattr(reply, name))
            getattr(reply, name).clear()
            self.assertEqual(before, getattr(reply, name))
        reply.skipped.append(9)
        list(reply).clear()
        self.assertEqual(([], 3), (reply.skipped, len(reply)))


if __name__ == "__main__":
    unittest.main()
