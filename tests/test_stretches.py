import unittest
from copy import deepcopy
from itertools import permutations, product

from moments import ALL_SPANS, FAR, MOMENTS, STRETCHES, moments_in, span_of
from whenrows.stretches import bounds_of, joined, lies_in, met, taken, tidied

ALL_TIME = [(None, None)]


class SpanTest(unittest.TestCase):
    def assert_span(self, span):
        self.assertIs(type(span), list)
        for stretch in span:
            self.assertIs(type(stretch), tuple)
            self.assertEqual(len(stretch), 2)
            start, end = stretch
            self.assertTrue(start is None or end is None or start < end, span)
        for one, other in zip(span, span[1:]):
            self.assertIsNotNone(one[1], span)
            self.assertIsNotNone(other[0], span)
            self.assertLess(one[1], other[0], span)


class TestTidied(SpanTest):
    def assert_tidied(self, stretches, span):
        for order in permutations(stretches):
            answer = tidied(list(order))
            self.assert_span(answer)
            self.assertEqual(answer, span, order)

    def test_no_stretches(self):
        self.assert_tidied([], [])

    def test_one(self):
        for stretch in [(3, 4), (-5, 0), (0, 7), (None, 0), (0, None), (None, None), (-FAR, FAR)]:
            self.assert_tidied([stretch], [stretch])

    def test_touching(self):
        self.assert_tidied([(1, 3), (3, 5)], [(1, 5)])
        self.assert_tidied([(-3, 0), (0, 2), (2, 9)], [(-3, 9)])
        self.assert_tidied([(None, 0), (0, None)], [(None, None)])

    def test_apart_by_one_moment(self):
        self.assert_tidied([(1, 3), (4, 5)], [(1, 3), (4, 5)])
        self.assert_tidied([(None, -1), (0, None)], [(None, -1), (0, None)])

    def test_overlapping(self):
        self.assert_tidied([(1, 4), (3, 6)], [(1, 6)])
        self.assert_tidied([(None, 4), (3, 6)], [(None, 6)])
        self.assert_tidied([(1, 4), (3, None)], [(1, None)])
        self.assert_tidied([(None, 4), (3, None)], [(None, None)])

    def test_one_within_another(self):
        self.assert_tidied([(1, 9), (3, 4)], [(1, 9)])
        self.assert_tidied([(1, 9), (1, 4)], [(1, 9)])
        self.assert_tidied([(1, 9), (4, 9)], [(1, 9)])
        self.assert_tidied([(None, None), (3, 4), (None, 2), (8, None)], [(None, None)])
        self.assert_tidied([(1, 9), (2, 3), (5, 6)], [(1, 9)])
        self.assert_tidied([(1, 9), (2, 3), (9, 10)], [(1, 10)])

    def test_twice(self):
        self.assert_tidied([(1, 3), (1, 3)], [(1, 3)])
        self.assert_tidied([(None, 3), (None, 3)], [(None, 3)])
        self.assert_tidied([(None, 3), (None, 5)], [(None, 5)])
        self.assert_tidied([(1, None), (1, None)], [(1, None)])
        self.assert_tidied([(None, None), (None, None)], [(None, None)])

    def test_a_gap_that_a_later_one_fills(self):
        self.assert_tidied([(1, 2), (3, 4), (2, 3)], [(1, 4)])

    def test_sixty_figures(self):
        self.assert_tidied([(FAR - 1, FAR), (-FAR, 1 - FAR)], [(-FAR, 1 - FAR), (FAR - 1, FAR)])
        self.assert_tidied([(FAR - 2, FAR - 1), (FAR - 1, FAR)], [(FAR - 2, FAR)])
        self.assert_tidied([(FAR - 3, FAR - 2), (FAR - 1, FAR)], [(FAR - 3, FAR - 2), (FAR - 1, FAR)])
        self.assert_tidied([(None, -FAR), (FAR, None)], [(None, -FAR), (FAR, None)])

    def test_all_lists_of_up_to_three(self):
        for count in range(4):
            for stretches in product(STRETCHES, repeat=count):
                answer = tidied(list(stretches))
                self.assert_span(answer)
                self.assertEqual(answer, span_of(moments_in(stretches)), stretches)

    def test_tidying_a_span_changes_nothing(self):
        for span in ALL_SPANS:
            self.assertEqual(tidied(span), span)


class TestLiesIn(unittest.TestCase):
    def assert_lies(self, span, inside, outside):
        for moment in inside:
            self.assertIs(lies_in(span, moment), True, (span, moment))
        for moment in outside:
            self.assertIs(lies_in(span, moment), False, (span, moment))

    def test_at_start_and_end_and_one_ahead(self):
        self.assert_lies([(2, 5)], [2, 3, 4], [1, 5, 6])
        self.assert_lies([(-1, 0)], [-1], [-2, 0, 1])
        self.assert_lies([(0, 1)], [0], [-1, 1])

    def test_from_ever_and_for_ever(self):
        self.assert_lies([(None, 0)], [-FAR, -1], [0, 1, FAR])
        self.assert_lies([(0, None)], [0, 1, FAR], [-1, -FAR])
        self.assert_lies(ALL_TIME, [-FAR, 0, FAR], [])
        self.assert_lies([], [], [-FAR, 0, FAR])

    def test_several_stretches(self):
        self.assert_lies([(None, -3), (0, 2), (4, None)], [-FAR, -4, 0, 1, 4, FAR], [-3, -1, 2, 3])

    def test_sixty_figures(self):
        self.assert_lies([(FAR - 1, FAR)], [FAR - 1], [FAR - 2, FAR, -FAR])
        self.assert_lies([(-FAR, 1 - FAR)], [-FAR], [-FAR - 1, 1 - FAR, FAR])

    def test_all_small_spans(self):
        for span in ALL_SPANS:
            inside = moments_in(span)
            for moment in MOMENTS:
                self.assertIs(lies_in(span, moment), moment in inside, (span, moment))


class TestTwoSpans(SpanTest):
    def assert_answer(self, deed, one, other, span):
        answer = deed(one, other)
        self.assert_span(answer)
        self.assertEqual(answer, span, (deed.__name__, one, other))

    def test_all_pairs_of_small_spans(self):
        for one, other in product(ALL_SPANS, repeat=2):
            in_one = moments_in(one)
            in_other = moments_in(other)
            self.assert_answer(joined, one, other, span_of(in_one | in_other))
            self.assert_answer(met, one, other, span_of(in_one & in_other))
            self.assert_answer(taken, one, other, span_of(in_one - in_other))

    def test_with_the_empty_span(self):
        for span in [[], ALL_TIME, [(1, 2), (4, None)], [(None, -FAR), (FAR, None)]]:
            self.assert_answer(joined, span, [], span)
            self.assert_answer(joined, [], span, span)
            self.assert_answer(met, span, [], [])
            self.assert_answer(met, [], span, [])
            self.assert_answer(taken, span, [], span)
            self.assert_answer(taken, [], span, [])

    def test_with_all_of_time(self):
        for span in [[], ALL_TIME, [(1, 2), (4, None)], [(None, -FAR), (FAR, None)]]:
            self.assert_answer(joined, span, ALL_TIME, ALL_TIME)
            self.assert_answer(joined, ALL_TIME, span, ALL_TIME)
            self.assert_answer(met, span, ALL_TIME, span)
            self.assert_answer(met, ALL_TIME, span, span)
            self.assert_answer(taken, span, ALL_TIME, [])
        self.assert_answer(taken, ALL_TIME, [(1, 2), (4, None)], [(None, 1), (2, 4)])
        self.assert_answer(taken, ALL_TIME, [(None, -FAR), (FAR, None)], [(-FAR, FAR)])

    def test_turned_about(self):
        one = [(0, 5), (8, 12)]
        other = [(-3, 1), (4, 9), (12, 20)]
        self.assert_answer(joined, one, other, [(-3, 20)])
        self.assert_answer(joined, other, one, [(-3, 20)])
        self.assert_answer(met, one, other, [(0, 1), (4, 5), (8, 9)])
        self.assert_answer(met, other, one, [(0, 1), (4, 5), (8, 9)])
        self.assert_answer(taken, one, other, [(1, 4), (9, 12)])
        self.assert_answer(taken, other, one, [(-3, 0), (5, 8), (12, 20)])

    def test_touching_at_far_moments(self):
        self.assert_answer(joined, [(-FAR, 0)], [(0, FAR)], [(-FAR, FAR)])
        self.assert_answer(met, [(-FAR, 0)], [(0, FAR)], [])
        self.assert_answer(met, [(-FAR, FAR)], [(FAR - 1, None)], [(FAR - 1, FAR)])
        self.assert_answer(taken, [(-FAR, FAR)], [(FAR - 1, None)], [(-FAR, FAR - 1)])


class TestBoundsOf(unittest.TestCase):
    def test_starts_and_ends_that_are_numbers(self):
        for span, bounds in [
            ([], []),
            (ALL_TIME, []),
            ([(None, 0)], [0]),
            ([(0, None)], [0]),
            ([(-4, 3)], [-4, 3]),
            ([(None, -4), (-2, 0), (5, None)], [-4, -2, 0, 5]),
            ([(-FAR, -1), (1, FAR)], [-FAR, -1, 1, FAR]),
        ]:
            answer = bounds_of(span)
            self.assertIs(type(answer), list)
            self.assertEqual(answer, bounds)


class TestNothingIsShared(unittest.TestCase):
    """What was handed in stays as it was, and what is given is the asker's own."""

    def assert_own(self, deed, arguments):
        before = deepcopy(arguments)
        answer = deed(*arguments)
        self.assertEqual(arguments, before, deed.__name__)
        kept = deepcopy(answer)
        for argument in arguments:
            self.assertIsNot(answer, argument)
        answer.append("more")
        answer[0] = "other"
        self.assertEqual(arguments, before, deed.__name__)
        self.assertEqual(deed(*arguments), kept, deed.__name__)

    def test_of_one_list(self):
        for stretches in [[(5, 7), (1, 3), (2, 4), (None, 0)], [(1, 3)], [(1, 3), (5, None)]]:
            self.assert_own(tidied, (stretches,))
            self.assert_own(bounds_of, (tidied(stretches),))

    def test_of_two_spans(self):
        one = [(1, 9), (12, None)]
        other = [(None, 3), (20, 30)]
        for deed in (joined, met, taken):
            self.assert_own(deed, (one, other))
        self.assert_own(joined, (one, []))
        self.assert_own(joined, ([], one))
        self.assert_own(met, (one, ALL_TIME[:]))
        self.assert_own(met, (ALL_TIME[:], one))
        self.assert_own(taken, (one, []))
        self.assert_own(joined, (one, one))
        self.assert_own(met, (one, one))

    def test_empty_answers_are_new(self):
        for deed, arguments in [
            (tidied, ([],)), (bounds_of, ([],)), (joined, ([], [])), (met, ([], [])), (taken, ([], [(1, 2)])),
        ]:
            answer = deed(*arguments)
            answer.append("more")
            self.assertEqual(arguments[0], [])
            self.assertEqual(deed(*arguments), [])

    def test_asking_changes_nothing(self):
        span = [(1, 9), (12, None)]
        lies_in(span, 5)
        self.assertEqual(span, [(1, 9), (12, None)])


if __name__ == "__main__":
    unittest.main()
