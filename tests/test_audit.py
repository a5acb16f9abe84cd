"""Promise 19: the audit of a line and a history."""

import random
import unittest

from driving import drive
from oneslate.audit import audit, does
from oneslate.doing import done_on
from oneslate.houses import House
from oneslate.lines import line_of
from oneslate.slates import blank, opened, with_cell, with_doing, with_shut
from samples import HALLS

NEXT = ((2, (3, 4, 5)), (2, (3, 4, 5)))
ADD = ("add", "a", 5)
TWO = ("add", "a", 2)


def line_with(rows):
    """Tell the right line of rows (asker, number, deed), with stamps of rising rounds."""
    links = []
    slate = blank()
    epoch, parent = 0, (0, 0)
    for turn, (asker, number, deed) in enumerate(rows, start=1):
        slate = done_on(slate, asker, number, deed)
        links.append((epoch, (turn, asker), parent, number, deed, slate))
        parent = (turn, asker)
        if slate[3] is not None and slate[3] != "over":
            slate = opened(slate)
            epoch, parent = epoch + 1, (0, 0)
    return links


def began(asker, number, deed):
    return ("begin", asker, number, deed, 0)


def ended(asker, number, word, told=None):
    return ("end", asker, number, (word, told), 0)


def bent_slate(links, place, slate):
    return links[:place] + [links[place][:5] + (slate,)] + links[place + 1:]


# Asker 0 adds 5, asker 1 adds 2, asker 0 moves, asker 1 adds 5 in the next hall.
ROWS = [(0, 1, ADD), (1, 1, TWO), (0, 2, ("move", NEXT)), (1, 2, ADD)]
LINE = line_with(ROWS)
BEGINS = [began(*row) for row in ROWS]
RIGHT = [
    BEGINS[0], ended(0, 1, "did", 5), BEGINS[1], ended(1, 1, "did", 7), BEGINS[2], ended(0, 2, "did", 1), BEGINS[3],
    ended(1, 2, "did", 12),
]


class DoesTest(unittest.TestCase):

    def test_deeds(self):
        self.assertEqual([does(LINE, place) for place in range(4)], [(0, 1), (1, 1), (0, 2), (1, 2)])
        self.assertIs(type(does(LINE, 0)), tuple)

    def test_glances_and_deeds_done_before(self):
        rows = [(0, 1, ADD), (0, 1, ADD), (1, 1, None), (1, 2, ("swap", "a", 9, 9)), (0, 1, ADD), (0, 2, ADD)]
        links = line_with(rows)
        self.assertEqual([does(links, place) for place in range(6)], [(0, 1), None, None, (1, 2), None, (0, 2)])

    def test_behind_a_shut_slate(self):
        links = line_with([(0, 1, ADD), (1, 1, ("end",)), (0, 2, ADD)])
        self.assertEqual([does(links, place) for place in range(3)], [(0, 1), (1, 1), None])

    def test_by_the_slates_alone(self):
        other = with_doing(blank(), 1, 1, 0)
        self.assertIsNone(does(bent_slate(LINE, 0, other), 0))
        self.assertIsNone(does(bent_slate(LINE, 0, with_doing(blank(), 0, 2, 0)), 0))
        self.assertEqual(does(bent_slate(LINE, 0, with_doing(blank(), 0, 1, 99)), 0), (0, 1))
        self.assertIsNone(does(bent_slate(LINE, 0, with_doing(LINE[0][5], 1, 1, 99)), 1))
        self.assertEqual(does(bent_slate(LINE, 0, with_doing(LINE[0][5], 1, 2, 99)), 1), (1, 1))


class LinksTest(unittest.TestCase):

    def test_no_fault(self):
        self.assertIsNone(audit([], []))
        self.assertIsNone(audit(LINE, BEGINS))
        self.assertIsNone(audit(LINE, RIGHT))
        self.assertIsNone(audit([], BEGINS))

    def test_links_behind_a_shut_slate_of_their_epoch(self):
        rows = [(0, 1, ADD), (1, 1, ("end",)), (0, 2, ADD), (1, 2, None)]
        links = line_with(rows)
        self.assertEqual([link[0] for link in links], [0, 0, 0, 0])
        self.assertIsNone(audit(links, [began(*row) for row in rows]))

    def test_unbegun(self):
        self.assertEqual(audit(LINE, []), ("unbegun", 0))
        for place in range(4):
            fault = ("unbegun", place)
            self.assertEqual(audit(LINE, BEGINS[:place] + BEGINS[place + 1:]), fault)
            asker, number, deed = ROWS[place]
            others = [(2, number, deed), (asker, number + 3, deed), (asker, number, ("add", "b", 1))]
            for other in others + [(asker, number, None)]:
                self.assertEqual(audit(LINE, BEGINS[:place] + [began(*other)] + BEGINS[place + 1:]), fault)
        self.assertIs(type(audit(LINE, [])), tuple)

    def test_unbegun_glances(self):
        links = line_with([(0, 1, ADD), (1, 1, None)])
        self.assertIsNone(audit(links, [began(0, 1, ADD), began(1, 1, None)]))
        self.assertEqual(audit(links, [began(0, 1, ADD), began(1, 1, ADD)]), ("unbegun", 1))

    def test_an_end_is_no_begin(self):
        self.assertEqual(audit(LINE[:1], [ended(0, 1, "did", 5)]), ("unbegun", 0))

    def test_wrong(self):
        for place in range(4):
            slate = LINE[place][5]
            others = [
                with_cell(slate, "a", 99), with_doing(slate, 5, 1, 1),
                with_doing(slate, ROWS[place][0], ROWS[place][1], 77),
                with_shut(slate, "over"), opened(slate) if place == 2 else with_shut(slate, NEXT), blank(),
            ]
            for other in others:
                self.assertEqual(audit(bent_slate(LINE, place, other), BEGINS), ("wrong", place))

    def test_wrong_behind_a_hand_over(self):
        slate = done_on(LINE[2][5], 1, 2, ADD)
        self.assertEqual(audit(bent_slate(LINE, 3, slate), BEGINS), ("wrong", 3))

    def test_unbegun_ahead_of_wrong_at_one_place(self):
        bent = bent_slate(LINE, 1, blank())
        self.assertEqual(audit(bent, [BEGINS[0]] + BEGINS[2:]), ("unbegun", 1))
        self.assertEqual(audit(bent, BEGINS[:2] + BEGINS[3:]), ("wrong", 1))
        self.assertEqual(audit(bent, BEGINS[1:]), ("unbegun", 0))

    def test_faults_of_links_ahead_of_those_of_ends(self):
        history = [ended(5, 1, "did", 5)] + BEGINS
        self.assertEqual(audit(LINE, history), ("lost", 0))
        self.assertEqual(audit(bent_slate(LINE, 3, blank()), history), ("wrong", 3))


class EndsOfDeedsTest(unittest.TestCase):

    def test_lost(self):
        for row in [ended(0, 3, "did", 5), ended(2, 1, "did", 0), ended(1, 3, "did", 12)]:
            self.assertEqual(audit(LINE, RIGHT + [row]), ("lost", 8))
            self.assertEqual(audit(LINE, [row] + RIGHT), ("lost", 0))
        self.assertEqual(audit([], [began(0, 1, ADD), ended(0, 1, "did", 5)]), ("lost", 1))

    def test_lie(self):
        for place in (1, 3, 5, 7):
            for answer in (0, 99, (1, 5, None), None):
                bent = RIGHT[place][:3] + (("did", answer),) + RIGHT[place][4:]
                self.assertEqual(audit(LINE, RIGHT[:place] + [bent] + RIGHT[place + 1:]), ("lie", place))

    def test_answers_of_leases(self):
        rows = [(0, 1, ("take", 0)), (1, 1, ("take", 0))]
        begins = [began(*row) for row in rows]
        links = line_with(rows)
        self.assertIsNone(audit(links, begins + [ended(0, 1, "did", (1, 1, 0)), ended(1, 1, "did", (0, 1, 0))]))
        self.assertEqual(audit(links, begins + [ended(0, 1, "did", (1, 1, 1))]), ("lie", 2))
        self.assertEqual(audit(links, begins + [ended(1, 1, "did", (1, 1, 0))]), ("lie", 2))

    def test_told_over(self):
        self.assertIsNone(audit(LINE, RIGHT + [began(2, 1, ADD), ended(2, 1, "over")]))
        self.assertIsNone(audit(LINE, RIGHT + [ended(2, 1, "over"), ended(0, 3, "over")]))
        self.assertEqual(audit(LINE, BEGINS + [ended(1, 2, "over")]), ("lie", 4))
        self.assertEqual(audit(LINE, [ended(0, 1, "over")] + BEGINS), ("lie", 0))
        self.assertIsNone(audit([], [began(2, 1, ADD), ended(2, 1, "over")]))

    def test_the_first_fault_of_several(self):
        faults = [ended(5, 1, "did", 5), ended(0, 1, "did", 4), ended(1, 1, "over")]
        words = ["lost", "lie", "lie"]
        for first in range(3):
            for other in range(3):
                self.assertEqual(audit(LINE, BEGINS + [faults[first], faults[other]]), (words[first], 4))


class EndsOfGlancesTest(unittest.TestCase):

    def check(self, links, seen, fault):
        history = BEGINS + [began(3, 1, None), ended(3, 1, "saw", seen)]
        self.assertEqual(audit(links, history), fault if fault is None else (fault, 5))

    def test_a_stamp(self):
        for epoch, stamp, parent, number, deed, slate in LINE:
            self.check(LINE, (epoch, stamp, slate), None)
            self.check(LINE, (epoch, stamp, with_cell(slate, "b", 1)), "lie")
            self.check(LINE, (1 - epoch, stamp, slate), "lost")
            self.check(LINE, (epoch, (stamp[0], 5), slate), "lost")
        self.check(LINE, (0, LINE[2][1], opened(LINE[2][5])), "lie")
        self.check([], (0, (1, 0), blank()), "lost")

    def test_no_stamp(self):
        self.check(LINE, (0, (0, 0), blank()), None)
        self.check(LINE, (0, (0, 0), LINE[0][5]), "lie")
        self.check([], (0, (0, 0), blank()), None)
        self.check([], (0, (0, 0), LINE[0][5]), "lie")
        self.check(LINE, (1, (0, 0), opened(LINE[2][5])), None)
        self.check(LINE, (1, (0, 0), LINE[2][5]), "lie")
        self.check(LINE, (1, (0, 0), blank()), "lie")
        self.check(LINE, (2, (0, 0), LINE[3][5]), None)
        self.check(LINE, (2, (0, 0), opened(LINE[2][5])), "lie")
        self.check([], (1, (0, 0), blank()), None)
        self.check(LINE[:3], (1, (0, 0), opened(LINE[2][5])), None)

    def test_none_in_the_place_of_a_stamp(self):
        links = line_with(ROWS + [(0, 3, ("end",))])
        begins = BEGINS + [began(0, 3, ("end",))]
        told = links[4][5]
        self.assertIsNone(audit(links, begins + [ended(3, 1, "saw", (1, None, told))]))
        self.assertEqual(audit(links, begins + [ended(3, 1, "saw", (1, None, opened(told)))]), ("lie", 5))
        self.assertEqual(audit(links, begins + [ended(3, 1, "saw", (1, None, links[3][5]))]), ("lie", 5))
        self.check([], (0, None, blank()), "lost")
        self.check(LINE, (1, None, LINE[3][5]), None)


class LateTest(unittest.TestCase):

    def glance(self, number, place):
        """Tell the begin and end of asker 3's glance behind the link at the place."""
        if place < 0:
            return [began(3, number, None), ended(3, number, "saw", (0, (0, 0), blank()))]
        one = LINE[place]
        return [began(3, number, None), ended(3, number, "saw", (one[0], one[1], one[5]))]

    def test_a_deed_behind_a_deed(self):
        history = [BEGINS[1], ended(1, 1, "did", 7), BEGINS[0], ended(0, 1, "did", 5)] + RIGHT[4:]
        self.assertEqual(audit(LINE, history), ("late", 1))
        history = [BEGINS[1], BEGINS[0], ended(1, 1, "did", 7), ended(0, 1, "did", 5)] + RIGHT[4:]
        self.assertIsNone(audit(LINE, history))

    def test_a_deed_that_has_not_ended(self):
        self.assertEqual(audit(LINE, [BEGINS[1], ended(1, 1, "did", 7), BEGINS[0]] + RIGHT[4:]), ("late", 1))

    def test_a_deed_where_the_ended_one_stands(self):
        one = self.glance(1, 0)
        self.assertEqual(audit(LINE, one + BEGINS), ("late", 1))
        self.assertIsNone(audit(LINE, BEGINS[:1] + one + BEGINS[1:]))
        self.assertIsNone(audit(LINE, self.glance(1, -1) + BEGINS))
        self.assertEqual(audit(LINE, [ended(0, 1, "did", 5)] + BEGINS), ("late", 0))

    def test_a_glance_behind_a_deed(self):
        for place in range(-1, 4):
            for done in range(4):
                end = ended(*ROWS[done][:2], "did", [5, 7, 1, 12][done])
                fault = ("late", 4) if place < done else None
                self.assertEqual(audit(LINE, BEGINS + [end] + self.glance(1, place)), fault)

    def test_a_glance_behind_a_glance(self):
        for first in range(-1, 4):
            for second in range(-1, 4):
                fault = ("late", 5) if second < first else None
                self.assertEqual(audit(LINE, BEGINS + self.glance(1, first) + self.glance(2, second)), fault)

    def test_a_glance_at_the_beginning_of_an_epoch(self):
        seen = [began(3, 1, None), ended(3, 1, "saw", (1, (0, 0), opened(LINE[2][5])))]
        self.assertIsNone(audit(LINE, BEGINS[:3] + seen + BEGINS[3:]))
        self.assertEqual(audit(LINE, BEGINS[:2] + seen + BEGINS[2:]), ("late", 3))
        self.assertIsNone(audit(LINE, BEGINS + self.glance(2, 2) + seen))
        self.assertEqual(audit(LINE, BEGINS + self.glance(2, 3) + seen), ("late", 5))

    def test_a_glance_that_saw_the_end(self):
        links = line_with(ROWS + [(0, 3, ("end",))])
        seen = [began(3, 1, None), ended(3, 1, "saw", (1, None, links[4][5]))]
        self.assertIsNone(audit(links, BEGINS + [began(0, 3, ("end",))] + seen))
        self.assertEqual(audit(links, BEGINS + seen + [began(0, 3, ("end",))]), ("late", 5))
        again = [began(3, 2, None), ended(3, 2, "saw", (1, links[4][1], links[4][5]))]
        self.assertIsNone(audit(links, BEGINS + [began(0, 3, ("end",))] + seen + again))

    def test_never_too_early(self):
        done = BEGINS + [ended(1, 2, "did", 12)]
        for rows in [[began(3, 1, None)], [began(2, 1, ADD)], [began(2, 1, ADD), ended(2, 1, "over")]]:
            self.assertIsNone(audit(LINE, done + rows))

    def test_nothing_is_too_early_for_a_wish_told_over(self):
        self.assertIsNone(audit(LINE, [began(2, 1, ADD), ended(2, 1, "over")] + RIGHT))

    def test_lost_and_lie_ahead_of_late(self):
        history = [BEGINS[1], ended(1, 1, "did", 7), BEGINS[0], ended(0, 1, "did", 5)] + RIGHT[4:]
        self.assertEqual(audit(LINE, history + [ended(4, 1, "did", 0)]), ("lost", 8))
        self.assertEqual(audit(LINE, history + [ended(0, 1, "over")]), ("lie", 8))

    def test_the_first_of_several(self):
        history = [BEGINS[3], ended(1, 2, "did", 12), BEGINS[2], ended(0, 2, "did", 1), BEGINS[0], BEGINS[1]]
        self.assertEqual(audit(LINE, history), ("late", 1))
        self.assertEqual(audit(LINE, history[2:4] + history[:2] + history[4:]), ("late", 1))
        self.assertEqual(audit(LINE, history[2:3] + history[:1] + history[3:]), ("late", 2))


class ByWords:
    """The audit told again, row by row of the document."""

    def __init__(self, links, history):
        self.links = links
        self.history = history

    def ahead(self, place):
        if place == 0:
            return blank()
        before, one = self.links[place - 1], self.links[place]
        return before[5] if before[0] == one[0] else before[5][:3] + (None,)

    def doer(self, asker, number):
        found = []
        for place, one in enumerate(self.links):
            behind = [(asker, number)] == [doing[:2] for doing in one[5][1] if doing[0] == asker]
            before = [(asker, number)] == [doing[:2] for doing in self.ahead(place)[1] if doing[0] == asker]
            if (one[1][1], one[3]) == (asker, number) and behind and not before:
                found.append(place)
        return found[0] if found else None

    def stands(self, row):
        asker, number, outcome = row[1:4]
        if outcome[0] != "saw":
            return self.doer(asker, number)
        epoch, stamp, slate = outcome[1]
        if stamp is None:
            places = range(len(self.links))
        elif stamp == (0, 0):
            places = [-1] + [place for place, one in enumerate(self.links) if one[0] < epoch]
        else:
            places = [place for place, one in enumerate(self.links) if one[:2] == (epoch, stamp)]
        return max(places, default=None)

    def end_fault(self, row):
        place = self.stands(row)
        word, told = row[3]
        if word == "over":
            return None if place is None else "lie"
        if place is None:
            return "lost"
        if word == "did":
            answers = [doing[2] for doing in self.links[place][5][1] if doing[0] == row[1]]
            return None if answers == [told] else "lie"
        slate = blank() if place == -1 else self.links[place][5]
        if told[1] == (0, 0):
            slate = slate[:3] + (None,)
        return None if slate == told[2] else "lie"

    def too_early(self, row, place):
        asker, number, deed = row[1:4]
        if deed is not None:
            link = self.doer(asker, number)
            return link is not None and not link > place
        ends = [one for one in self.history if one[:3] == ("end", asker, number)]
        return any(self.stands(one) < place for one in ends)

    def audit(self):
        for place, one in enumerate(self.links):
            if not any(row[0] == "begin" and row[1:4] == (one[1][1], one[3], one[4]) for row in self.history):
                return ("unbegun", place)
            if done_on(self.ahead(place), one[1][1], one[3], one[4]) != one[5]:
                return ("wrong", place)
        ends = [(place, row) for place, row in enumerate(self.history) if row[0] == "end"]
        for place, row in ends:
            if self.end_fault(row):
                return (self.end_fault(row), place)
        for place, row in ends:
            later = [one for one in self.history[place:] if one[0] == "begin"]
            if row[3][0] != "over" and any(self.too_early(one, self.stands(row)) for one in later):
                return ("late", place)
        return None


class BentTest(unittest.TestCase):

    def bend(self, drawn, links, history):
        """Bend the line or the history in one place, as a line or history may still be."""
        kind = drawn.randrange(7)
        if kind == 0 and links:
            return links[:drawn.randrange(len(links))], history
        if kind == 1 and links:
            place = drawn.randrange(len(links))
            return bent_slate(links, place, with_cell(links[place][5], "b", drawn.randrange(4))), history
        if not history:
            return links, history
        place = drawn.randrange(len(history))
        row = history[place]
        rest = history[:place] + history[place + 1:]
        if kind == 2 and row[0] == "begin":
            return links, rest
        if kind == 3 and row[0] == "end" and row[3][0] == "did":
            return links, history[:place] + [row[:3] + (("did", drawn.randrange(3)), row[4])] + history[place + 1:]
        if kind == 4 and row[0] == "end" and row[3][0] == "saw":
            epoch, stamp, slate = row[3][1]
            stamp = drawn.choice([None, (0, 0), stamp] + [one[1] for one in links])
            return links, history[:place] + [row[:3] + (("saw", (epoch, stamp, slate)), row[4])] + history[place + 1:]
        other = drawn.randrange(len(rest) + 1)
        return links, rest[:other] + [row] + rest[other:]

    def test_against_the_words(self):
        words = {}
        for seed in range(500):
            drawn = random.Random(seed)
            hall = drawn.choice(HALLS)
            house = House(hall, 3)
            drive(house, drawn, 3, 160)
            links, history = line_of(house.record(), hall), house.history()
            for _ in range(drawn.randrange(1, 4)):
                links, history = self.bend(drawn, links, history)
            before = repr((links, history))
            told = audit(links, history)
            self.assertEqual(repr((links, history)), before)
            self.assertEqual(told, ByWords(links, history).audit(), seed)
            words[told and told[0]] = True
        self.assertEqual(set(words), {None, "unbegun", "wrong", "lost", "lie", "late"})


if __name__ == "__main__":
    unittest.main()
