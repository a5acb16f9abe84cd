"""Promise 20: the wait for a span."""

import random
import unittest

from oneslate.clocks import wait_for

BIG = 10 ** 60 - 1


class WaitTest(unittest.TestCase):

    def test_rows_by_hand(self):
        rows = [
            (1, 1, 1, 1), (10, 1, 1, 10), (10, 1, 3, 30), (10, 2, 3, 15), (10, 3, 4, 14), (9, 3, 4, 12), (1, 2, 3, 2),
            (7, 5, 5, 7), (1, 7, 7, 1), (1, 10, 11, 2), (5, 10, 11, 6), (10, 10, 11, 11),
        ]
        for span, slow, fast, wait in rows:
            with self.subTest(span=span, slow=slow, fast=fast):
                self.assertEqual(repr(wait_for(span, slow, fast)), repr(wait))

    def test_the_least_one(self):
        for span in range(1, 14):
            for slow in range(1, 9):
                for fast in range(slow, 12):
                    wait = wait_for(span, slow, fast)
                    self.assertGreaterEqual(wait * slow, span * fast)
                    self.assertLess((wait - 1) * slow, span * fast)

    def test_slow_equal_to_fast(self):
        for span in (1, 2, 99, BIG):
            for speed in (1, 2, 7, BIG):
                self.assertEqual(wait_for(span, speed, speed), span)

    def test_numbers_of_sixty_figures(self):
        self.assertEqual(wait_for(BIG, 1, BIG), BIG * BIG)
        self.assertEqual(wait_for(BIG, BIG - 1, BIG), BIG + 2)
        drawn = random.Random(20)
        for _ in range(200):
            span, slow, fast = [drawn.randrange(1, 10 ** 60) for _ in range(3)]
            slow, fast = min(slow, fast), max(slow, fast)
            wait = wait_for(span, slow, fast)
            self.assertTrue((wait - 1) * slow < span * fast <= wait * slow)


if __name__ == "__main__":
    unittest.main()
