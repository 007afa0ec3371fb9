"""Points [3] and [4] as far as errors go."""

import unittest

from repeatnets import errors

TOLD = [
    ("BadAxes", ["axes"]), ("BadRooms", ["words"]), ("BadTie", ["index"]), ("NoTie", ["name"]), ("NoRoom", ["name"]),
    ("TieTaken", ["name"]), ("UnlikeAxes", []), ("BadRound", ["thing"]), ("BadNumber", ["number"]),
    ("BadLevels", ["thing"]), ("BadPlace", ["thing"]), ("BadMatrix", ["matrix"]), ("NoAxis", ["axis"]),
    ("BadSizes", ["sizes"]), ("BadKinds", ["kinds"]), ("BadPair", ["index"]), ("BadOrder", ["order"]),
    ("BadDeed", ["index"]), ("BadText", ["line"]), ("UnlikeGrids", []), ("BadCosts", ["name"]),
]


class TestErrors(unittest.TestCase):
    def test_net_error_is_a_direct_value_error(self):
        self.assertEqual(errors.NetError.__bases__, (ValueError,))

    def test_all_errors_are_direct_net_errors(self):
        for name, _ in TOLD:
            self.assertEqual(getattr(errors, name).__bases__, (errors.NetError,), name)

    def test_there_are_no_others(self):
        found = [name for name, thing in vars(errors).items() if isinstance(thing, type)]
        self.assertEqual(sorted(found), sorted([name for name, _ in TOLD] + ["NetError"]))

    def test_hold_the_very_thing_by_position_and_by_name(self):
        for name, parameters in TOLD:
            error = getattr(errors, name)
            thing = [["any"], None]
            self.assertIsInstance(error(*[thing for _ in parameters]), errors.NetError)
            for parameter in parameters:
                self.assertIs(getattr(error(thing), parameter), thing)
                self.assertIs(getattr(error(**{parameter: thing}), parameter), thing)


if __name__ == "__main__":
    unittest.main()
