import unittest

from retinue.beads import Beads
from retinue.errors import BadPlace
from retinue.trains import leaders_of, lords_of, reach_of, reaches, stopper_of, train_of
from tests.support import raised, slow_run, slow_train, standings


class Trains(unittest.TestCase):
    def test_by_the_words_of_the_document(self):
        for beads in standings():
            expected = []
            for place in range(len(beads)):
                train = slow_train(beads, place)
                left = [q for q in slow_run(beads, place) if q not in train]
                expected.append(sum(beads.lengths[q] for q in [place] + train))
                self.assertEqual(train_of(beads, place), train)
                self.assertEqual(stopper_of(beads, place), left[0] if left else None)
                self.assertEqual(reach_of(beads, place), expected[-1])
            self.assertEqual(reaches(beads), expected)

    def test_ordinary(self):
        ring = Beads([3, 1, 2, 4], [1, 10, 100, 1000])
        self.assertEqual([train_of(ring, p) for p in range(4)], [[1, 2], [], [], [0, 1, 2]])
        self.assertEqual([stopper_of(ring, p) for p in range(4)], [3, 2, 3, None])
        self.assertEqual(reaches(ring), [111, 10, 100, 1111])

    def test_a_ring_of_one_bead_and_the_last_bead_of_a_row(self):
        for beads in (Beads([5], [7]), Beads([5], [7], ring=False)):
            self.assertEqual((train_of(beads, 0), stopper_of(beads, 0), reach_of(beads, 0)), ([], None, 7))
        row = Beads([1, 9], [2, 3], ring=False)
        self.assertEqual((train_of(row, 1), stopper_of(row, 1), reach_of(row, 1)), ([], None, 3))

    def test_equal_strengths_and_strength_0(self):
        self.assertEqual(reaches(Beads([2, 2, 2])), [1, 1, 1])
        self.assertEqual([stopper_of(Beads([0, 0]), p) for p in (0, 1)], [1, 0])
        self.assertEqual(reaches(Beads([0, 1, 0], ring=False)), [1, 2, 1])

    def test_no_such_place(self):
        for beads in (Beads([1, 2]), Beads([1, 2], ring=False)):
            for place in (-1, 2, 5):
                for call in (train_of, reach_of, stopper_of):
                    self.assertEqual(raised(self, BadPlace, call, beads, place), {"place": place})

    def test_raising_a_strength(self):
        for beads in standings(3):
            before = reaches(beads)
            for place in range(len(beads)):
                after = reaches(beads.with_strength(place, beads.strengths[place] + 1))
                self.assertGreaterEqual(after[place], before[place])
                self.assertTrue(all(after[q] <= before[q] for q in range(len(beads)) if q != place))

    def test_repeated_rings_and_joined_rows(self):
        for ring in standings(3, kinds=(True,)):
            self.assertEqual(reaches(ring * 3), reaches(ring) * 3)
        rows = list(standings(2, kinds=(False,)))
        for row in rows:
            for other in rows[::5]:
                self.assertEqual(reaches(row + other)[len(row):], reaches(other))

    def test_more_than_120_beads(self):
        row = Beads(list(range(150, 0, -1)), ring=False)
        self.assertEqual(reaches(row), list(range(150, 0, -1)))
        self.assertEqual(lords_of(row), [None] + list(range(149)))
        self.assertEqual(train_of(Beads([0] * 149 + [1]), 149), list(range(149)))


class Lords(unittest.TestCase):
    def test_by_the_words_of_the_document(self):
        for beads in standings():
            lords = []
            for place in range(len(beads)):
                behind = [(slow_run(beads, other).index(place), other)
                          for other in range(len(beads)) if place in slow_train(beads, other)]
                lords.append(min(behind)[1] if behind else None)
            self.assertEqual(lords_of(beads), lords)
            self.assertEqual(leaders_of(beads), [p for p, lord in enumerate(lords) if lord is None])

    def test_leaders_of_a_ring_are_the_strongest_beads(self):
        for ring in standings(kinds=(True,)):
            strongest = [p for p, s in enumerate(ring) if s == ring.greatest()]
            self.assertEqual(leaders_of(ring), strongest)

    def test_ordinary(self):
        self.assertEqual(lords_of(Beads([1, 3, 2, 0], ring=False)), [None, None, 1, 2])
        self.assertEqual(lords_of(Beads([1, 3, 2, 0])), [2, None, 1, 2])
        self.assertEqual(leaders_of(Beads([1, 3, 2, 3], ring=False)), [0, 1, 3])
        self.assertEqual((lords_of(Beads([0])), leaders_of(Beads([0]))), ([None], [0]))

    def test_retinues_are_nested(self):
        for beads in standings(3):
            for place in range(len(beads)):
                train = train_of(beads, place)
                for other in train:
                    self.assertTrue(set(train_of(beads, other)) <= set(train))
