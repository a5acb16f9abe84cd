"""Promise 3: one line, each once, in true order, handing on and ending, whatever row of wishes, bells and bringings."""

import random
import unittest

from driving import drive, run_wish
from oneslate.audit import audit, does
from oneslate.doing import along
from oneslate.houses import House
from oneslate.lines import last_slate, line_of, way_to
from oneslate.slates import blank
from oneslate.sums import doers, sum_of
from oneslate.tellings import chosen_in, tellings
from samples import HALLS

THREE = ((2, (0, 1, 2)), (2, (0, 1, 2)))
NEXT = ((2, (3, 4, 5)), (2, (3, 4, 5)))


def driven(seeds, turns, ends=True):
    """Tell (hall, house) of houses that were driven by chance."""
    for seed in seeds:
        drawn = random.Random(seed)
        hall = drawn.choice(HALLS)
        askers = drawn.randrange(1, 7)
        house = House(hall, askers)
        drive(house, drawn, askers, turns, ends)
        yield hall, house


def halls_by_epoch(line, hall):
    """Tell the hall of each epoch of the line, and of the one behind it."""
    halls = [hall]
    for link in line:
        if link[5][3] not in (None, "over"):
            halls.append(link[5][3])
    return halls


class OneLineTest(unittest.TestCase):

    def test_the_audit_finds_no_fault(self):
        outcomes = {}
        for hall, house in driven(range(300), 300):
            history = house.history()
            self.assertIsNone(audit(line_of(house.record(), hall), history))
            for row in history:
                if row[0] == "end":
                    stamp = row[3][1][1] if row[3][0] == "saw" else 1
                    outcomes[(row[3][0], stamp is None, stamp == (0, 0))] = True
        told = [("did", False, False), ("over", False, False), ("saw", False, False), ("saw", False, True)]
        self.assertEqual(sorted(outcomes), told + [("saw", True, False)])

    def test_long_runs(self):
        for hall, house in driven(range(300, 312), 3000, ends=False):
            line = line_of(house.record(), hall)
            self.assertGreater(len(line), 20)
            self.assertIsNone(audit(line, house.history()))

    def test_the_line_of_a_shorter_record_is_a_beginning(self):
        for hall, house in driven(range(400, 425), 250):
            record = house.record()
            line = line_of(record, hall)
            for many in range(0, len(record), 3):
                shorter = line_of(record[:many], hall)
                self.assertEqual(shorter, line[:len(shorter)])

    def test_each_telling_above_a_chosen_one_comes_of_it(self):
        for hall, house in driven(range(500, 560), 300):
            record = house.record()
            links = tellings(record)
            for epoch, epoch_hall in enumerate(halls_by_epoch(line_of(record, hall), hall)):
                chosen = chosen_in(record, epoch, epoch_hall)
                for link in [one for one in links if one[0] == epoch]:
                    way = [one[1] for one in way_to(links, epoch, link[1])]
                    below = [stamp for stamp in chosen if stamp <= link[1]]
                    self.assertTrue(set(below) <= set(way))


class EachOnceTest(unittest.TestCase):

    def test_no_deed_is_done_by_two(self):
        for hall, house in driven(range(600, 660), 300):
            line = line_of(house.record(), hall)
            done = [does(line, place) for place in range(len(line))]
            done = [one for one in done if one is not None]
            self.assertEqual(len(done), len(set(done)))
            ended = [row[1:3] for row in house.history() if row[0] == "end" and row[3][0] == "did"]
            self.assertTrue(set(ended) <= set(done))

    def test_answers_are_those_of_the_lines_deeds_one_behind_the_other(self):
        for hall, house in driven(range(700, 740), 300):
            line = line_of(house.record(), hall)
            answers = {}
            slate = blank()
            for place, link in enumerate(line):
                slate = along(slate[:3] + (None,), [(link[1][1], link[3], link[4])])[0]
                if does(line, place):
                    answers[does(line, place)] = [one[2] for one in slate[1] if one[0] == link[1][1]][0]
            for row in house.history():
                if row[0] == "end" and row[3][0] == "did":
                    self.assertEqual(row[3][1], answers[row[1:3]])

    def test_sums_come_out(self):
        for seed in range(20):
            drawn = random.Random(seed)
            house = House(THREE, 3)
            for _ in range(12):
                asker = drawn.randrange(3)
                house.begin(asker, ("add", "a", 1))
                while house.stand(asker) != "calm":
                    house.bell(asker)
                    for _ in range(60):
                        house.bring(drawn.randrange(max(0, house.many() - 20), house.many()))
            line = line_of(house.record(), THREE)
            self.assertEqual(last_slate(line)[0], (("a", 12),))


    def test_sums_of_driven_houses_come_out(self):
        for seed in range(40):
            drawn = random.Random(seed)
            house = House(THREE, 4)
            fresh = []
            for _ in range(400):
                asker = drawn.randrange(4)
                if house.stand(asker) == "calm":
                    fresh += house.begin(asker, ("add", drawn.choice(["a", "b"]), drawn.randrange(1, 99)))
                if drawn.random() < 0.02 or not fresh:
                    fresh += house.bell(asker)
                fresh += house.bring(fresh.pop(drawn.randrange(min(4, len(fresh)))))
            line = line_of(house.record(), THREE)
            done = [does(line, place) for place in range(len(line))]
            added = [row[3] for row in house.history() if row[0] == "begin" and row[1:3] in done]
            for name in ("a", "b"):
                self.assertEqual(sum_of(line, name), sum(deed[2] for deed in added if deed[1] == name))
            self.assertEqual(sum(pair[1] for pair in doers(line)), len(added))
            self.assertGreater(len(added), 3)


class HandingOnTest(unittest.TestCase):

    def test_nothing_changes_it_in_the_old_hall(self):
        house = House(THREE, 3)
        run_wish(house, 0, ("put", "a", 7))
        house.begin(2, ("put", "a", 1))
        run_wish(house, 0, ("move", NEXT))
        self.assertEqual(run_wish(house, 1, ("add", "a", 1)), ("did", 8))
        run_wish(house, 0, ("add", "b", 1))
        while house.stand(2) != "calm":
            first = house.many()
            house.bell(2)
            for k in range(first, first + 200):
                if k < house.many():
                    house.bring(k)
        self.assertEqual(house.outcome(2), ("did", 8))
        line = line_of(house.record(), THREE)
        self.assertEqual([link[0] for link in line], [0, 0, 1, 1, 1])
        self.assertIsNone(audit(line, house.history()))


class EndingTest(unittest.TestCase):

    def test_behind_an_end_the_line_stays(self):
        for seed in range(30):
            drawn = random.Random(seed)
            house = House(THREE, 4)
            drive(house, drawn, 4, 60, ends=False)
            for asker in range(4):
                self.finish(house, asker)
            run_wish(house, 0, ("end",))
            hall_line = line_of(house.record(), THREE)
            drive(house, drawn, 4, 200)
            self.assertEqual(line_of(house.record(), THREE), hall_line)
            done = [does(hall_line, place) for place in range(len(hall_line))]
            for row in house.history():
                if row[0] == "end" and row[3] == ("over", None):
                    self.assertNotIn(row[1:3], done)

    def finish(self, house, asker):
        while house.stand(asker) != "calm":
            first = house.many()
            house.bell(asker)
            k = first
            while k < house.many():
                house.bring(k)
                k += 1


if __name__ == "__main__":
    unittest.main()
