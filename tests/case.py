"""What the tests share."""

import unittest

GREAT = 10 ** 59 + 7

NO_NAMES = ["", "clayclayc", "Clay", "CLAY", "cl ay", "clay1", "cl-ay", "clay\n", " clay", "`", "{", "#",
            None, True, False, 0, 1, ("clay",), ["clay"], {"clay": 1}, (), [], {}]
NO_LEVELS = [True, False, None, "", "4", "clay", (4,), [4], {4: 4}, (), [], {}]


def any_values():
    """Values of every kind that a caller may pass as "any value", new ones each time."""
    deep = "clay"
    for _ in range(8):
        deep = [deep]
    return [
        None, True, False, 0, 1, -1, 12, 13, GREAT, -GREAT, "", "clay", "Clay", "clayclay", "clayclayc", "cl ay", "1",
        (), (1,), ("clay", 4, None), [], [1], ["clay", 4, None], [("clay", 4, None)], (("clay", 4, None),),
        {}, {"clay": [4]}, {1: ("a", None)}, deep, ("lay", "clay"), [None], (True, False),
    ]


class Case(unittest.TestCase):

    def refused(self, wanted, call, *arguments, **keywords):
        """The call raises an error of exactly this class with these fields; the repr tells True from 1."""
        before = repr((arguments, keywords))
        with self.assertRaises(type(wanted)) as caught:
            call(*arguments, **keywords)
        self.assertIs(type(caught.exception), type(wanted))
        self.assertEqual(repr(vars(caught.exception)), repr(vars(wanted)))
        self.assertEqual(repr((arguments, keywords)), before)

    def same(self, value, wanted):
        """Equal, and of the same built-in classes through and through."""
        self.assertEqual(repr(value), repr(wanted))
        self.assertEqual(value, wanted)

    def equal(self, one, other):
        """Both signs say that the two are equal."""
        self.assertIs(one == other, True)
        self.assertIs(one != other, False)

    def unequal(self, one, other):
        """Both signs say that the two are not equal."""
        self.assertIs(one == other, False)
        self.assertIs(one != other, True)
