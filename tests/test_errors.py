"""The error classes, and what the interface says of the modules' names."""

import inspect
import unittest

from meanloom import adding, answers, binding, errors, groupings, series, shares, squares, sums, tables

NAMES = [
    "BadShare", "BadCount", "BadKind", "BadGrouping", "BadTable", "BadWord", "BadWays", "BadMeans", "BadLetters",
    "TooMany", "TooFew",
]

SIGNATURES = [
    (shares, "share", ["top", "bottom"]),
    (shares, "plus", ["one", "other"]),
    (shares, "minus", ["one", "other"]),
    (shares, "times", ["one", "other"]),
    (shares, "over", ["one", "other"]),
    (shares, "order", ["one", "other"]),
    (groupings, "groupings", ["many", "kind"]),
    (groupings, "how_many", ["many", "kind"]),
    (groupings, "is_kind", ["grouping", "kind"]),
    (groupings, "mark", ["grouping", "kind"]),
    (groupings, "within", ["one", "other"]),
    (groupings, "joined", ["one", "other"]),
    (groupings, "turned_in", ["grouping"]),
    (tables, "mean", ["table", "word"]),
    (tables, "beside", ["one", "other"]),
    (tables, "made", ["table", "ways"]),
    (sums, "sum_of", ["table", "word", "kind"]),
    (sums, "product_sum", ["table", "words"]),
    (series, "sums_from", ["means", "kind"]),
    (series, "means_from", ["sums", "kind"]),
    (series, "between", ["sums", "kind", "other"]),
    (adding, "word_mean", ["one", "other", "word", "kind"]),
    (adding, "added", ["one", "other", "kind"]),
    (answers, "Apart", []),
    (answers, "Mixed", ["many", "more"]),
    (answers, "Squares", ["parts"]),
    (answers, "Below", ["row"]),
    (answers.Apart, "shows", ["self", "table", "one", "other"]),
    (answers.Mixed, "shows", ["self", "table", "one", "other"]),
    (answers.Squares, "shows", ["self", "means"]),
    (answers.Below, "shows", ["self", "means"]),
    (binding, "both_sum", ["table", "one", "other", "many", "more"]),
    (binding, "apart", ["table", "one", "other"]),
    (squares, "steady", ["means"]),
]


class ErrorsTest(unittest.TestCase):
    def test_mean_error_is_a_value_error(self):
        self.assertEqual(errors.MeanError.__bases__, (ValueError,))

    def test_each_refusal_stands_straight_under_mean_error(self):
        for name in NAMES:
            with self.subTest(name=name):
                self.assertEqual(getattr(errors, name).__bases__, (errors.MeanError,))

    def test_there_are_no_other_refusals(self):
        known = [name for name, value in vars(errors).items() if inspect.isclass(value)]
        self.assertEqual(sorted(known), sorted(NAMES + ["MeanError"]))


class InterfaceTest(unittest.TestCase):
    def test_arguments_have_the_told_names(self):
        for module, name, arguments in SIGNATURES:
            with self.subTest(name=name):
                signature = inspect.signature(getattr(module, name))
                self.assertEqual(list(signature.parameters), arguments)
                for parameter in signature.parameters.values():
                    self.assertIs(parameter.default, inspect.Parameter.empty)


if __name__ == "__main__":
    unittest.main()
