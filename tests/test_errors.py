import unittest

from sinceply import errors

PLAIN = ["NoPlaces", "NoTies", "NoLayers", "NoPair", "NoNet", "Unlike", "NoText", "NoPaper", "NoRow", "NoDeed"]


class TestErrors(unittest.TestCase):
    def test_ply_error_is_straight_under_value_error(self):
        self.assertEqual(errors.PlyError.__bases__, (ValueError,))

    def test_each_is_straight_under_ply_error(self):
        for name in PLAIN + ["Clash"]:
            self.assertEqual(getattr(errors, name).__bases__, (errors.PlyError,), name)

    def test_none_is_under_another(self):
        classes = [getattr(errors, name) for name in PLAIN + ["Clash"]]
        for one in classes:
            for other in classes:
                self.assertEqual(issubclass(one, other), one is other)

    def test_plain_ones_are_made_without_anything(self):
        for name in PLAIN:
            self.assertIsInstance(getattr(errors, name)(), errors.PlyError)

    def test_clash_has_its_moment(self):
        for moment in (0, 7, 10 ** 30):
            self.assertEqual(errors.Clash(moment).moment, moment)
