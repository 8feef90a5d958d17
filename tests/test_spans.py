import random
import unittest
from fractions import Fraction
from itertools import permutations
from math import gcd, lcm

from support import BureauCase

from pagebureau.base.errors import BadVector
from pagebureau.base.spans import Span


def span_of(size, vectors):
    span = Span(size)
    for vector in vectors:
        span.grow(vector)
    return span


def frame_of(vectors):
    """The frame by elimination with Python's own fractions, column by column."""
    rows = [[Fraction(entry) for entry in vector] for vector in vectors]
    done = 0
    for at in range(len(vectors[0])):
        found = next((k for k in range(done, len(rows)) if rows[k][at]), None)
        if found is None:
            continue
        rows[done], rows[found] = rows[found], rows[done]
        rows[done] = [entry / rows[done][at] for entry in rows[done]]
        for k in range(len(rows)):
            if k != done and rows[k][at]:
                rows[k] = [x - rows[k][at] * y for x, y in zip(rows[k], rows[done])]
        done += 1
    return [whole(row) for row in rows[:done]]


def whole(row):
    bottom = lcm(*[entry.denominator for entry in row])
    entries = [int(entry * bottom) for entry in row]
    return tuple(entry // gcd(*entries) for entry in entries)


def unit(size, at, entry=1):
    return tuple(entry if k == at else 0 for k in range(size))


def random_vectors(source, size, count, most):
    """Vectors of which some depend on others."""
    vectors = []
    for _ in range(count):
        if vectors and source.random() < 0.3:
            one, two = source.choice(vectors), source.choice(vectors)
            vectors.append(tuple(3 * x - 2 * y for x, y in zip(one, two)))
        else:
            vectors.append(tuple(source.choice((0, 0, source.randint(-most, most))) for _ in range(size)))
    return vectors


class GrowTest(BureauCase):
    def test_a_new_span(self):
        for size in (1, 2, 400):
            span = Span(size)
            self.assertEqual(size, span.size)
            self.assertEqual(0, len(span))
            self.assertEqual([], list(span))

    def test_only_a_greater_span_gives_true(self):
        span = Span(3)
        self.assertIs(False, span.grow((0, 0, 0)))
        self.assertIs(True, span.grow((2, 4, 0)))
        self.assertIs(False, span.grow((2, 4, 0)))
        self.assertIs(False, span.grow((-3, -6, 0)))
        self.assertIs(True, span.grow((0, 3, 3)))
        self.assertIs(False, span.grow((1, 1, -1)))
        self.assertIs(True, span.grow((0, 0, -7)))
        self.assertIs(False, span.grow((5, 6, 7)))
        self.assertEqual([(1, 0, 0), (0, 1, 0), (0, 0, 1)], list(span))

    def test_the_frame_of_one_vector(self):
        for vector, frame in [
            ((4, -6), (2, -3)), ((-4, 6), (2, -3)), ((0, -5), (0, 1)), ((0, 5), (0, 1)),
            ((3, 0), (1, 0)), ((6, 10), (3, 5)), ((-1, 0), (1, 0)), ((7, 5), (7, 5)),
        ]:
            self.assertEqual([frame], list(span_of(2, [vector])))

    def test_heads_that_are_not_1(self):
        self.assertEqual([(2, 0, 1), (0, 3, 1)], list(span_of(3, [(2, 3, 2), (0, 3, 1)])))
        self.assertEqual([(1, 1, 0), (0, 0, 1)], list(span_of(3, [(0, 0, 4), (3, 3, 8)])))

    def test_the_frame_as_it_is_told(self):
        source = random.Random(7)
        for _ in range(300):
            size, most = source.randint(1, 7), source.choice((1, 3, 20, 10 ** 30))
            vectors = random_vectors(source, size, source.randint(1, 8), most)
            span = Span(size)
            for count, vector in enumerate(vectors, 1):
                expected = frame_of(vectors[:count])
                self.assertIs(len(expected) > len(span), span.grow(vector))
                self.assertEqual(expected, list(span))
                self.assertEqual(len(expected), len(span))
            for vector in vectors + list(span):
                self.assertIs(True, vector in span)

    def test_the_order_of_the_vectors_does_not_matter(self):
        vectors = [(0, 2, 4, 1), (3, 0, 1, -1), (0, 0, 6, 9), (3, 2, 5, 0), (1, 1, 1, 1)]
        frames = [list(span_of(4, order)) for order in permutations(vectors)]
        self.assertEqual([frame_of(vectors)] * len(frames), frames)

    def test_vectors_of_another_size(self):
        span = span_of(2, [(1, 2)])
        for vector in ((), (1,), (1, 2, 3), (0, 0, 0), (0,) * 400):
            self.assert_raises(BadVector, (len(vector),), span.grow, vector)
            self.assert_raises(BadVector, (len(vector),), lambda: vector in span)
        self.assertEqual([(1, 2)], list(span))
        self.assert_raises(BadVector, (400,), lambda: span + Span(400))
        self.assert_raises(BadVector, (2,), lambda: Span(1) + span)

    def test_a_frame_that_was_read_stays(self):
        span = span_of(2, [(1, 2)])
        frame = list(span)
        frame.append((0, 0))
        self.assertEqual([(1, 2)], list(span))
        iterated = iter(span)
        span.grow((0, 1))
        self.assertEqual([(1, 2)], list(iterated))


class ReadingTest(BureauCase):
    def test_the_zeros_are_in_every_span(self):
        self.assertIs(True, (0,) in Span(1))
        self.assertIs(True, (0, 0) in span_of(2, [(1, 2)]))
        self.assertIs(True, (0,) * 400 in Span(400))

    def test_what_is_in_a_span(self):
        span = span_of(3, [(2, 4, 0), (0, 3, 3)])
        for vector in ((1, 2, 0), (-1, -2, 0), (1, 3, 1), (1, 0, -2), (7, 0, -14), (0, 1, 1)):
            self.assertIs(True, vector in span)
        for vector in ((1, 0, 0), (0, 1, 0), (0, 0, 1), (1, 0, 2), (1, 2, 1)):
            self.assertIs(False, vector in span)
        self.assertIs(False, (1,) in Span(1))

    def test_what_is_no_vector_is_in_no_span(self):
        span = span_of(2, [(1, 2), (0, 1)])
        for thing in ([1, 2], [0, 0], (True, 0), (0, False), (None, 0), "12", {0: 1, 1: 2}):
            self.assertIs(False, thing in span)
        self.assert_raises(BadVector, (3,), lambda: [0, 0, 0] in span)

    def test_nothing_but_grow_changes_a_span(self):
        span, other = span_of(3, [(1, 1, 1)]), span_of(3, [(0, 1, 2)])
        both = span + other
        for vector in ((1, 0, 0), (1, 1, 1)):
            self.assertIs(vector == (1, 1, 1), vector in span)
        self.assertIs(False, span == other)
        self.assertEqual(([(1, 1, 1)], [(0, 1, 2)]), (list(span), list(other)))
        both.grow((0, 0, 1))
        self.assertEqual((1, 1, 3), (len(span), len(other), len(both)))
        span.grow((1, 0, 0))
        self.assertEqual((2, 1, 3), (len(span), len(other), len(both)))

    def test_the_span_of_both(self):
        source = random.Random(8)
        for _ in range(200):
            size = source.randint(1, 6)
            first, second = [random_vectors(source, size, source.randint(1, 4), 4) for _ in range(2)]
            both = span_of(size, first) + span_of(size, second)
            self.assertEqual(frame_of(first + second), list(both))
            self.assertEqual(size, both.size)
            self.assertIs(Span, type(both))
            self.assertEqual(both, span_of(size, second) + span_of(size, first))
            self.assertIs(False, both.grow(source.choice(first + second)))
        self.assertEqual(Span(3), Span(3) + Span(3))

    def test_equal_spans(self):
        self.assertIs(True, Span(2) == Span(2))
        self.assertIs(False, Span(2) == Span(3))
        self.assertIs(True, span_of(2, [(1, 2), (3, 4)]) == span_of(2, [(0, -9), (5, 0)]))
        self.assertIs(True, span_of(2, [(-2, 4)]) == span_of(2, [(3, -6)]))
        self.assertIs(False, span_of(2, [(2, 4)]) == span_of(2, [(2, -4)]))
        self.assertIs(False, span_of(2, [(1, 0)]) == span_of(3, [(1, 0, 0)]))
        self.assertIs(False, span_of(2, [(1, 0)]) == Span(2))

    def test_beside_other_things(self):
        self.assert_unequal_to_others(span_of(2, [(1, 2)]), ([(1, 2)], ((1, 2),), {0: (1, 2)}, 2, None))
        self.assert_unequal_to_others(Span(1), ([], (), None, 0, False, 1, ""))


class EdgesTest(BureauCase):
    def test_size_1(self):
        span = Span(1)
        self.assertIs(False, span.grow((0,)))
        self.assertIs(True, span.grow((-6,)))
        self.assertEqual([(1,)], list(span))
        self.assertIs(False, span.grow((10 ** 100,)))
        self.assertIs(True, (7,) in span)

    def test_size_400_with_one_entry_each(self):
        span = Span(400)
        for at in range(399, -1, -1):
            self.assertIs(True, span.grow(unit(400, at, -at - 1)))
        self.assertEqual([unit(400, at) for at in range(400)], list(span))
        self.assertIs(True, tuple(range(400)) in span)
        self.assertIs(False, span.grow(tuple(range(400))))

    def test_size_400_with_a_chain(self):
        span = Span(400)
        for at in range(399):
            span.grow(tuple(1 if k in (at, at + 1) else 0 for k in range(400)))
        expected = [tuple(1 if k == at else (-1) ** (398 - at) if k == 399 else 0 for k in range(400))
                    for at in range(399)]
        self.assertEqual(expected, list(span))
        self.assertIs(False, unit(400, 17) in span)
        self.assertIs(True, span.grow(unit(400, 17)))
        self.assertEqual([unit(400, at) for at in range(400)], list(span))

    def test_size_400_with_full_vectors(self):
        source = random.Random(9)
        vectors = [tuple(source.randint(-9, 9) for _ in range(400)) for _ in range(12)]
        span = span_of(400, vectors)
        self.assertEqual(frame_of(vectors), list(span))
        self.assertEqual(span, span_of(400, vectors[:5]) + span_of(400, vectors[3:]))

    def test_long_entries(self):
        big = 10 ** 5000
        self.assertEqual([(1, 0, 0), (0, 1, 0)], list(span_of(3, [(big, big + 1, 0), (big - 1, big, 0)])))
        self.assertEqual([(big, 0, 1), (0, 1, 0)], list(span_of(3, [(0, -big, 0), (-big ** 2, 5, -big)])))
        source = random.Random(10)
        vectors = [tuple(source.randint(-10 ** 60, 10 ** 60) for _ in range(12)) for _ in range(9)]
        self.assertEqual(frame_of(vectors), list(span_of(12, vectors)))


if __name__ == "__main__":
    unittest.main()
