"""The searches over cubes against all cases."""

import random
import unittest

from smallcourt.prices import NEVER, Prices
from smallcourt.tally import Tally

PLACES = 6


def random_cubes(maker):
    """Some cubes; a few of them name no place, or the same places as another one."""
    found = []
    for _ in range(maker.randint(0, 9)):
        names = maker.sample(range(PLACES), maker.choice((0, 1, 2, 2, 3, 3, 4)) if maker.random() < 0.3 else 3)
        holds = sum(2 ** place for place in names if maker.random() < 0.4)
        found.append((holds, sum(2 ** place for place in names) - holds))
    return found


def first_met(cubes, number):
    """The index of the first cube that the case with a number meets, or how many there are."""
    for index, (holds, fails) in enumerate(cubes):
        if number & holds == holds and not number & fails:
            return index
    return len(cubes)


class TallyTest(unittest.TestCase):
    def test_random_cubes(self):
        maker = random.Random(31)
        for _ in range(300):
            weights = [maker.choice(((1, 1), (0, 1), (1, 0), (3, 4), (1, 99), (0, 7))) for _ in range(PLACES)]
            cubes = random_cubes(maker)
            tally = Tally(weights)
            expected = [0] * (len(cubes) + 1)
            for number in range(2 ** PLACES):
                weight = 1
                for place, (holds, fails) in enumerate(weights):
                    weight *= holds if number >> place & 1 else fails
                expected[first_met(cubes, number)] += weight
            self.assertEqual([tally.first_met(cubes, index) for index in range(len(cubes))], expected[:-1])
            self.assertEqual(tally.none_met(cubes), expected[-1])
            self.assertEqual(tally.total, sum(expected))


class PricesTest(unittest.TestCase):
    def test_random_cubes(self):
        maker = random.Random(32)
        for _ in range(300):
            prices = [maker.choice(((0, 0, 0), (0, 1, 2), (3, 4, 9))[maker.randint(0, 2)]) for _ in range(PLACES)]
            cubes = random_cubes(maker)
            search = Prices(prices)
            expected = [NEVER] * (len(cubes) + 1)
            for number in range(2 ** PLACES):
                index = first_met(cubes, number)
                price = sum(prices[place] for place in range(PLACES) if number >> place & 1)
                expected[index] = min(expected[index], price)
            # The same object is asked with limits in any order, as what it knows of one holds for the others.
            for _ in range(8):
                limit = maker.choice((0, 1, 2, 3, 4, 5, 6, 8, 11, 15, NEVER))
                for index, price in enumerate(expected[:-1]):
                    self.assert_within(search.first_met(cubes, index, limit), price, limit)
                self.assert_within(search.none_met(cubes, limit), expected[-1], limit)

    def assert_within(self, found, price, limit):
        if price < limit:
            self.assertEqual(found, price)
        else:
            self.assertGreaterEqual(found, limit)


if __name__ == "__main__":
    unittest.main()
