import unittest

from support import BureauCase

from pagebureau.base.errors import BadPlan, NoRow
from pagebureau.base.fracs import Frac
from pagebureau.posting.batches import Batch

ROWS = [(3, "a", 1), (0, "b", None), (3, "a", 1), (9, "f", -4), (0, "c", 0)]
BAD_SIZES = (-1, 41, 10 ** 30, -10 ** 30, True, False, None, "1", 1.0, Frac(1))


class BatchTest(BureauCase):
    def test_rows_in_any_order(self):
        self.assertEqual(ROWS, list(Batch(ROWS)))
        self.assertEqual(ROWS, list(Batch(tuple(ROWS))))
        self.assertEqual([5, 0], [len(Batch(ROWS)), len(Batch([]))])

    def test_requests_are_not_checked(self):
        odd = [None, (1, "g", 2), "row", (0, "a", 10 ** 40), [0, "a", 1], 5]
        batch = Batch(odd)
        self.assertEqual(odd, list(batch))
        self.assertEqual(odd * 2, list(batch + batch))
        self.assertEqual([odd[:4], odd[4:]], [list(chunk) for chunk in batch // 4])
        self.assertIn("row", batch)
        self.assertEqual((1, "g", 2), batch[1])

    def test_membership(self):
        batch = Batch(ROWS)
        for row in ROWS:
            self.assertIs(True, row in batch)
        for thing in ((3, "a", 2), (3, "b", 1), (3, "a"), [3, "a", 1], None, "a", 3):
            self.assertIs(False, thing in batch)
        self.assertNotIn(ROWS[0], Batch([]))

    def test_equality(self):
        self.assertTrue(Batch(ROWS) == Batch(tuple(ROWS)))
        self.assertTrue(Batch([]) == Batch([]))
        self.assertFalse(Batch(ROWS) == Batch(ROWS[::-1]))
        self.assertFalse(Batch(ROWS) == Batch(ROWS[:4]))
        self.assert_unequal_to_others(Batch(ROWS), [ROWS, tuple(ROWS), None, 5, "batch"])
        self.assert_unequal_to_others(Batch([]), [[], (), None, 0, False])

    def test_items(self):
        batch = Batch(ROWS)
        for place, row in enumerate(ROWS):
            self.assertEqual(row, batch[place])
        for place in (-1, 5, 10 ** 30, -5):
            self.assert_raises(NoRow, (place,), lambda: batch[place])
        self.assert_raises(NoRow, (0,), lambda: Batch([])[0])

    def test_what_was_passed_may_be_changed(self):
        rows = list(ROWS)
        batch = Batch(rows)
        rows.pop()
        self.assertEqual(ROWS, list(batch))
        list(batch).pop()
        self.assertEqual(5, len(batch))


class OperatorTest(BureauCase):
    def test_sums(self):
        for cut in range(6):
            first, second = Batch(ROWS[:cut]), Batch(ROWS[cut:])
            self.assertEqual(Batch(ROWS), first + second)
            self.assertEqual((cut, 5 - cut), (len(first), len(second)))

    def test_appending_changes_the_left_batch_only(self):
        first, second = Batch(ROWS[:2]), Batch(ROWS[2:])
        same = first
        first += second
        self.assertIs(same, first)
        self.assertEqual((ROWS, ROWS[2:]), (list(first), list(second)))
        first += first
        self.assertEqual(ROWS * 2, list(same))
        first += Batch([])
        self.assertEqual(ROWS * 2, list(first))
        empty = Batch([])
        empty += second
        empty += second
        self.assertEqual((ROWS[2:] * 2, ROWS[2:]), (list(empty), list(second)))

    def test_a_sum_does_not_grow_with_its_parts(self):
        first, second = Batch(ROWS[:1]), Batch(ROWS[1:2])
        both, twice, chunks = first + second, first * 2, first // 1
        first += second
        second += first
        self.assertEqual([ROWS[:2], [ROWS[0]] * 2, [Batch(ROWS[:1])]], [list(both), list(twice), chunks])

    def test_products_from_both_sides(self):
        batch = Batch(ROWS)
        for count in (0, 1, 2, 7):
            self.assertEqual(ROWS * count, list(batch * count))
            self.assertEqual(ROWS * count, list(count * batch))
        for count in (0, 1, 10 ** 30):
            self.assertEqual(Batch([]), Batch([]) * count)
            self.assertEqual(Batch([]), count * Batch([]))
        self.assertEqual(ROWS, list(batch))
        for other in (batch * 1, batch + Batch([])):
            other += batch
            self.assertEqual(5, len(batch))


class ChunkTest(BureauCase):
    def test_sizes(self):
        batch = Batch(ROWS)
        for size, lengths in [(0, [5]), (1, [1] * 5), (2, [2, 2, 1]), (3, [3, 2]), (4, [4, 1]), (5, [5]), (6, [5]), (40, [5])]:
            chunks = batch // size
            self.assertIs(list, type(chunks))
            self.assertEqual(lengths, [len(chunk) for chunk in chunks])
            self.assertEqual(ROWS, [row for chunk in chunks for row in chunk])
            self.assertTrue(all(type(chunk) is Batch for chunk in chunks))

    def test_the_empty_batch_has_no_chunks(self):
        for size in (0, 1, 2, 40):
            self.assertEqual([], Batch([]) // size)

    def test_200_requests(self):
        batch = Batch(ROWS * 40)
        for size in (1, 7, 39, 40):
            self.assertEqual([ROWS * 40][0][:size], list((batch // size)[0]))
            self.assertEqual(-(-200 // size), len(batch // size))

    def test_sizes_out_of_range(self):
        for batch in (Batch(ROWS), Batch([])):
            for size in BAD_SIZES:
                self.assert_raises(BadPlan, ("size",), lambda: batch // size)

    def test_chunks_are_new(self):
        batch = Batch(ROWS)
        for size in (0, 5, 40, 2):
            chunk = (batch // size)[0]
            chunk += Batch(ROWS)
            self.assertEqual(ROWS, list(batch))


if __name__ == "__main__":
    unittest.main()
