import unittest

from panfalls import errors, words

BASES = {
    "NoBalance": LookupError,
    "NoExit": LookupError,
    "NoDeed": LookupError,
    "Needed": RuntimeError,
    "Lone": RuntimeError,
    "Deep": OverflowError,
    "Many": OverflowError,
    "BadRow": ValueError,
}


class Words(unittest.TestCase):
    def test_sides(self):
        self.assertEqual(words.LEFT, "left")
        self.assertEqual(words.RIGHT, "right")


class Errors(unittest.TestCase):
    def each(self):
        for name, base in BASES.items():
            with self.subTest(name=name):
                yield getattr(errors, name), base

    def test_stands_straight_under_its_base(self):
        for made, base in self.each():
            self.assertEqual(made.__bases__, (base,))

    def test_stands_under_no_other(self):
        all_of_them = [getattr(errors, name) for name in BASES]
        self.assertEqual(len(set(all_of_them)), len(BASES))
        for made, base in self.each():
            above = [other for other in all_of_them if issubclass(made, other)]
            self.assertEqual(above, [made])

    def test_has_the_one_field_what(self):
        for made, base in self.each():
            for what in (0, -3, 10 ** 12, "ab", ""):
                for error in (made(what), made(what=what)):
                    self.assertEqual(vars(error), {"what": what})

    def test_is_made_with_just_one_thing(self):
        for made, base in self.each():
            with self.assertRaises(TypeError):
                made()
            with self.assertRaises(TypeError):
                made(1, 2)

    def test_is_caught_by_its_base_with_what(self):
        for made, base in self.each():
            with self.assertRaises(base) as caught:
                raise made(7)
            self.assertEqual(caught.exception.what, 7)

    def test_makes_its_own_field(self):
        for made, base in self.each():
            self.assertIn("__init__", vars(made))


if __name__ == "__main__":
    unittest.main()
