"""Points 4 and 5: spans."""

import itertools
import unittest

from farbooks.spans import all_kept, clashes, cut_at, has_key, joined_at, span_with

# Of each run of keys between two of these bounds, the first key is among the samples.
BOUNDS = ["", "a", "ab", "b", "ba", "zzzzzzzz"]
SAMPLES = ["a", "aa", "aaaaaaaa", "ab", "abc", "b", "ba", "bb", "m", "z", "zzzzzzz", "zzzzzzzz"]
ALL_SPANS = list(itertools.product(BOUNDS, BOUNDS))


def keys_by_hand(span):
    low, high = span
    return [key for key in SAMPLES if key >= low and (not high or key < high)]


def lists_of_spans():
    """All sorted lists of up to three spans with keys, no key in two."""
    full = sorted(span for span in ALL_SPANS if keys_by_hand(span))
    for many in range(4):
        for spans in itertools.combinations(full, many):
            keys = [key for span in spans for key in keys_by_hand(span)]
            if len(keys) == len(set(keys)):
                yield list(spans)


class HasKey(unittest.TestCase):

    def test_from_low_up_to_high(self):
        self.assertIs(has_key(("b", "d"), "c"), True)
        self.assertIs(has_key(("b", "d"), "a"), False)
        self.assertIs(has_key(("b", "d"), "e"), False)

    def test_a_low_is_in_and_a_high_is_not(self):
        self.assertIs(has_key(("b", "d"), "b"), True)
        self.assertIs(has_key(("b", "d"), "d"), False)

    def test_empty_low_and_empty_high(self):
        self.assertIs(has_key(("", "d"), "a"), True)
        self.assertIs(has_key(("", "d"), "d"), False)
        self.assertIs(has_key(("b", ""), "zzzzzzzz"), True)
        self.assertIs(has_key(("b", ""), "b"), True)
        self.assertIs(has_key(("b", ""), "azzzzzzz"), False)
        self.assertIs(has_key(("", ""), "a"), True)

    def test_keys_that_are_beginnings_of_one_another(self):
        self.assertIs(has_key(("ab", "abc"), "ab"), True)
        self.assertIs(has_key(("ab", "abc"), "abb"), True)
        self.assertIs(has_key(("ab", "abc"), "abc"), False)
        self.assertIs(has_key(("ab", "abc"), "a"), False)
        self.assertIs(has_key(("a", "ab"), "aa"), True)

    def test_spans_without_a_key(self):
        for key in SAMPLES:
            self.assertIs(has_key(("", "a"), key), False)
            self.assertIs(has_key(("b", "b"), key), False)
            self.assertIs(has_key(("c", "b"), key), False)

    def test_each_span_has_the_keys_by_hand(self):
        for span in ALL_SPANS:
            found = [key for key in SAMPLES if has_key(span, key)]
            self.assertEqual(found, keys_by_hand(span), span)


class SpanWith(unittest.TestCase):

    def test_the_span_or_none(self):
        spans = [("b", "d"), ("f", "h"), ("h", "")]
        self.assertEqual(span_with(spans, "b"), ("b", "d"))
        self.assertEqual(span_with(spans, "cz"), ("b", "d"))
        self.assertEqual(span_with(spans, "g"), ("f", "h"))
        self.assertEqual(span_with(spans, "h"), ("h", ""))
        self.assertEqual(span_with(spans, "zzzzzzzz"), ("h", ""))
        for key in ("a", "d", "e", "ez"):
            self.assertIsNone(span_with(spans, key))

    def test_no_spans(self):
        self.assertIsNone(span_with([], "a"))

    def test_keys_that_are_beginnings_of_one_another(self):
        spans = [("", "ab"), ("ab", "abc"), ("abc", "")]
        self.assertEqual(span_with(spans, "a"), ("", "ab"))
        self.assertEqual(span_with(spans, "ab"), ("ab", "abc"))
        self.assertEqual(span_with(spans, "abb"), ("ab", "abc"))
        self.assertEqual(span_with(spans, "abcd"), ("abc", ""))


class CutAt(unittest.TestCase):

    def test_two_of_the_span_that_has_the_key(self):
        self.assertEqual(cut_at([("", "")], "m"), [("", "m"), ("m", "")])
        self.assertEqual(cut_at([("b", "d"), ("f", "h")], "g"), [("b", "d"), ("f", "g"), ("g", "h")])
        self.assertEqual(cut_at([("b", "d"), ("f", "")], "c"), [("b", "c"), ("c", "d"), ("f", "")])
        self.assertEqual(cut_at([("a", "b")], "aa"), [("a", "aa"), ("aa", "b")])

    def test_no_span_has_the_key(self):
        spans = [("b", "d"), ("f", "h")]
        for key in ("a", "d", "e", "h", "z"):
            self.assertEqual(cut_at(spans, key), [("b", "d"), ("f", "h")])
        self.assertEqual(cut_at([], "m"), [])

    def test_at_a_low(self):
        spans = [("b", "d"), ("d", "h")]
        self.assertEqual(cut_at(spans, "b"), spans)
        self.assertEqual(cut_at(spans, "d"), spans)

    def test_nothing_is_less_than_a(self):
        self.assertEqual(cut_at([("", "")], "a"), [("", "")])
        self.assertEqual(cut_at([("", "c"), ("c", "")], "a"), [("", "c"), ("c", "")])
        self.assertEqual(cut_at([("a", "")], "a"), [("a", "")])
        self.assertEqual(cut_at([("", "")], "aa"), [("", "aa"), ("aa", "")])

    def test_all_lists(self):
        for spans in lists_of_spans():
            for key in SAMPLES:
                self.assertEqual(cut_at(spans, key), self.cut_by_hand(spans, key), (spans, key))

    def cut_by_hand(self, spans, key):
        cut = []
        for low, high in spans:
            keys = keys_by_hand((low, high))
            if key in keys and keys[0] != key:
                cut += [(low, key), (key, high)]
            else:
                cut += [(low, high)]
        return cut


class JoinedAt(unittest.TestCase):

    def test_two_that_meet_are_one(self):
        self.assertEqual(joined_at([("", "m"), ("m", "")], "m"), [("", "")])
        self.assertEqual(
            joined_at([("b", "d"), ("d", "f"), ("f", "h"), ("k", "")], "f"),
            [("b", "d"), ("d", "h"), ("k", "")],
        )

    def test_where_no_two_meet(self):
        spans = [("b", "d"), ("d", "f"), ("h", "")]
        for key in ("a", "b", "c", "f", "g", "h", "z"):
            self.assertEqual(joined_at(spans, key), [("b", "d"), ("d", "f"), ("h", "")])
        self.assertEqual(joined_at([], "m"), [])
        self.assertEqual(joined_at([("", "")], "m"), [("", "")])

    def test_all_lists(self):
        for spans in lists_of_spans():
            for key in SAMPLES:
                self.assertEqual(joined_at(spans, key), self.joined_by_hand(spans, key), (spans, key))

    def joined_by_hand(self, spans, key):
        ends = [span for span in spans if span[1] == key]
        begins = [span for span in spans if span[0] == key]
        if not ends or not begins:
            return spans
        rest = [span for span in spans if key not in span]
        return sorted(rest + [(ends[0][0], begins[0][1])])

    def test_a_join_undoes_a_cut(self):
        for key in SAMPLES[1:]:
            self.assertEqual(joined_at(cut_at([("", "")], key), key), [("", "")])


class AllKept(unittest.TestCase):

    def test_without_gaps(self):
        self.assertIs(all_kept([("", "")]), True)
        self.assertIs(all_kept([("", "b"), ("b", "ba"), ("ba", "")]), True)

    def test_a_is_the_least_key(self):
        self.assertIs(all_kept([("a", "")]), True)
        self.assertIs(all_kept([("a", "m"), ("m", "")]), True)
        self.assertIs(all_kept([("aa", "")]), False)
        self.assertIs(all_kept([("b", "")]), False)

    def test_with_gaps(self):
        self.assertIs(all_kept([("", "b"), ("c", "")]), False)
        self.assertIs(all_kept([("", "b"), ("ba", "")]), False)
        self.assertIs(all_kept([("", "b"), ("b", "c"), ("d", "")]), False)

    def test_at_the_end(self):
        self.assertIs(all_kept([("", "z")]), False)
        self.assertIs(all_kept([("", "zzzzzzzz")]), False)
        self.assertIs(all_kept([("", "m"), ("m", "zzzzzzzz")]), False)
        self.assertIs(all_kept([("", "m"), ("m", "zzzzzzzz"), ("zzzzzzzz", "")]), True)

    def test_no_spans(self):
        self.assertIs(all_kept([]), False)

    def test_all_lists(self):
        for spans in lists_of_spans():
            keys = [key for span in spans for key in keys_by_hand(span)]
            self.assertIs(all_kept(spans), len(keys) == len(SAMPLES), spans)


class Clashes(unittest.TestCase):

    def test_spans_that_only_touch(self):
        self.assertIs(clashes([("b", "d")], ("d", "f")), False)
        self.assertIs(clashes([("d", "f")], ("b", "d")), False)
        self.assertIs(clashes([("b", "d"), ("f", "")], ("d", "f")), False)

    def test_spans_that_overlap(self):
        self.assertIs(clashes([("b", "d")], ("c", "f")), True)
        self.assertIs(clashes([("c", "f")], ("b", "d")), True)
        self.assertIs(clashes([("b", "d"), ("f", "h")], ("d", "fa")), True)
        self.assertIs(clashes([("b", "d"), ("f", "h")], ("cz", "f")), True)

    def test_spans_that_hold_one_another(self):
        self.assertIs(clashes([("b", "f")], ("c", "d")), True)
        self.assertIs(clashes([("c", "d")], ("b", "f")), True)
        self.assertIs(clashes([("", "")], ("c", "d")), True)
        self.assertIs(clashes([("c", "d")], ("", "")), True)
        self.assertIs(clashes([("c", "d")], ("c", "d")), True)

    def test_no_spans(self):
        self.assertIs(clashes([], ("", "")), False)

    def test_spans_without_a_key_clash_with_none(self):
        for span in (("", "a"), ("a", "a"), ("b", "b"), ("c", "b")):
            self.assertIs(clashes([("", "")], span), False)
            self.assertIs(clashes([("", "b"), ("b", "")], span), False)

    def test_all_lists(self):
        for spans in lists_of_spans():
            keys = {key for span in spans for key in keys_by_hand(span)}
            for span in ALL_SPANS:
                both = keys.intersection(keys_by_hand(span))
                self.assertIs(clashes(spans, span), bool(both), (spans, span))


if __name__ == "__main__":
    unittest.main()
