"""The examples of the document: e01 to e05, and those in the text of points 5 to 8."""

import unittest

from farwrap.errors import InvalidBound, InvalidKind
from farwrap.kinds import Kind, cast, greatest, inverse, least, operate, overflows, twos, wrapped


class SessionsTest(unittest.TestCase):

    def setUp(self):
        self.byte = Kind(8, False)
        self.small = Kind(8, True)

    def test_e01(self):
        with self.assertRaises(InvalidKind) as caught:
            Kind(129, False)
        self.assertEqual(caught.exception.part, "bits")

    def test_e02(self):
        byte, small = self.byte, self.small
        self.assertEqual(
            [least(small), greatest(byte), wrapped(small, 200), cast([small, Kind(16, False)], 200)],
            [-128, 255, -56, 65480],
        )

    def test_e03(self):
        byte, small = self.byte, self.small
        results = [
            operate(small, "divide", -128, -1), operate(small, "remainder", -7, 2),
            operate(small, "right", -7, 1), operate(byte, "multiply", 16, 17),
        ]
        self.assertEqual(results, [-128, -1, -4, 16])

    def test_e04(self):
        with self.assertRaises(InvalidBound) as caught:
            operate(self.byte, "divide", 5, 0)
        self.assertEqual(caught.exception.argument, "y")

    def test_e05(self):
        byte, small = self.byte, self.small
        results = [
            overflows(small, "divide", -128, -1), overflows(byte, "add", 200, 55),
            inverse(byte, 3), inverse(byte, 6), twos(small, -96), twos(byte, 0),
        ]
        self.assertEqual(results, [True, False, 171, None, 5, 8])


class TextTest(unittest.TestCase):

    def setUp(self):
        self.byte = Kind(8, False)
        self.small = Kind(8, True)

    def test_point_5(self):
        self.assertEqual(least(self.small), -128)

    def test_point_6(self):
        self.assertEqual(wrapped(self.small, 200), -56)
        self.assertEqual(cast([self.small, Kind(16, False)], 200), 65480)

    def test_point_7(self):
        self.assertEqual(operate(self.small, "divide", -128, -1), -128)
        self.assertEqual(operate(self.small, "remainder", -7, 2), -1)
        self.assertEqual(operate(self.small, "right", -7, 1), -4)

    def test_point_8(self):
        self.assertIs(overflows(self.small, "divide", -128, -1), True)
        self.assertEqual(inverse(self.byte, 3), 171)


if __name__ == "__main__":
    unittest.main()
