"""The examples of the interface, as the document has them."""

import unittest

from flankturns.between import common_count, joined_turns, last_common, turns_between
from flankturns.chances import end_chance, first_chance, mean_turns, turn_chance, turns_chances
from flankturns.comers import come_at, come_between, come_number, first_come, last_come
from flankturns.desk import Desk
from flankturns.errors import BadLine, InvalidText
from flankturns.frames import lines_by_time, mean_time, most_time, resting_count, swinging_count
from flankturns.freeing import freed_rest, freed_time
from flankturns.freely import free_count, free_ends, free_time, is_free
from flankturns.gardens import age_counts, garden_count, least_garden
from flankturns.hands import last_hand, turns_value, winning_cells, worth
from flankturns.holds import fewest_holds, held_rest, hold_effects, shows_holds
from flankturns.joins import joined, mirrored, opened, renamed, shifted
from flankturns.leaders import leader_count, leaders_by_time, least_leader, slowest_leader
from flankturns.lines import depths, ready_cells, stretches, swings, turned
from flankturns.linetext import read_line, write_line
from flankturns.masses import borders, gains, lost_borders, masses
from flankturns.odds import all_chance, rest_chances, swing_chance, time_chances
from flankturns.paint import cheapest_paint, fewest_painted, kept_cells, one_colour, shows_paint
from flankturns.painters import painters_cells, painters_value
from flankturns.pasts import before_count, befores, least_before, past
from flankturns.pictures import picture, read_picture
from flankturns.ranks import next_rest, rest_at, rest_number
from flankturns.seeing import can_be_seen, seen, seen_count
from flankturns.sights import fit_count, least_fit, next_asked, possible_colours, sure_colours, told_times
from flankturns.singles import (can_come, come_count, comes_by_turns, end_count, end_with, ends, ends_by_turns,
                                fewest_turns, is_rest_an_end, most_turns, ways_in_all, ways_to)
from flankturns.steps import (after, changes, colour_at, last_turned, rest, rest_time, step, turn_counts, turns_by)
from flankturns.webs import web_ends, web_mean, web_moves, web_rest, web_time, web_turns, web_worth
from flankturns.wishes import cheapest_end, dearest_end, fewest_to, most_to, step_cost, wished_end, wished_ends

SEVEN = ((0, 1, 0, 1, 0, 2, 0), (), False)
FIVE = ((0, 1, 0, 1, 0), (), False)


class TestExamples(unittest.TestCase):
    def test_lines(self):
        line = SEVEN
        self.assertEqual(
            [ready_cells(line), stretches(line), depths(line), turned(line, 5)[0], swings(((0, 1, 0, 1), (), True)),
             stretches(((0, 1, 0, 1), (0,), True))],
            [(1, 2, 3, 5), ((0, 1, 2, 3, 4), (4, 5, 6)), (0, 1, 2, 1, 0, 1, 0), (0, 1, 0, 1, 0, 0, 0), True,
             ((0, 1, 2, 3, 0),)])
        with self.assertRaises(BadLine) as caught:
            ready_cells(((0, 10), (), False))
        self.assertEqual(caught.exception.index, 1)

    def test_linetext(self):
        self.assertEqual([write_line(((0, 1, 2, 0), (1,), True)), read_line(" 01* 0")],
                         ["01*20o", ((0, 1, 0), (1,), False)])
        with self.assertRaises(InvalidText) as caught:
            read_line("00o")
        self.assertEqual(caught.exception.place, 2)

    def test_steps(self):
        line = SEVEN
        self.assertEqual(
            [step(line)[0], rest(line)[0], rest_time(line), turn_counts(line), changes(line), last_turned(line),
             colour_at(line, 2, 1)],
            [(0, 0, 1, 0, 0, 0, 0), (0, 0, 0, 0, 0, 0, 0), 2, (0, 1, 2, 1, 0, 1, 0), (4, 1), (2,), 1])
        ring = ((0, 1, 0, 1), (), True)
        self.assertEqual([after(ring, 3)[0], turns_by(ring, 7), rest(((0, 1, 0, 1), (0,), True))[0]],
                         [(1, 0, 1, 0), (7, 7, 7, 7), (0, 0, 0, 0)])

    def test_masses(self):
        line = SEVEN
        self.assertEqual([masses(line), gains(line), borders(line), lost_borders(line)],
                         [((0, 4), (1, 2), (2, 1)), ((0, 3), (1, -2), (2, -1)), 6, 6])

    def test_pasts(self):
        flat = ((0, 0, 0), (), False)
        self.assertEqual(
            [before_count(flat, 2), befores(flat, 2), least_before(((0, 1, 0), (), False), 2), past(flat, 2, 3)],
            [2, [(0, 0, 0), (0, 1, 0)], None, 2])

    def test_leaders(self):
        five = ((0, 0, 0, 0, 0), (), False)
        self.assertEqual(
            [leader_count(five, 2), leaders_by_time(five, 2), least_leader(five, 2), slowest_leader(five, 2)],
            [5, (1, 3, 1), (0, 0, 0, 0, 0), (0, 1, 0, 1, 0)])

    def test_frames(self):
        self.assertEqual(
            [most_time((5, (), False)), resting_count((3, (), False), 2), lines_by_time((4, (), False), 2),
             swinging_count((4, (), True), 3), mean_time((3, (), False), 2)],
            [2, 6, (10, 6), 6, (1, 4)])

    def test_singles(self):
        line = FIVE
        self.assertEqual(
            [come_count(line), comes_by_turns(line), end_count(line), ends_by_turns(line), ends(line),
             can_come(line, (0, 0, 1, 1, 0))],
            [5, (1, 3, 1), 2, (0, 1, 1), [(0, 0, 0, 0, 0), (0, 1, 1, 1, 0)], False])
        self.assertEqual(
            [fewest_turns(line), most_turns(line), ways_to(line, (0, 0, 0, 0, 0)), ways_in_all(line),
             end_with(line, 2), is_rest_an_end(line), is_rest_an_end(((0, 1, 0, 1), (), False))],
            [1, 2, 2, 3, (0, 0, 0, 0, 0), True, False])

    def test_chances(self):
        line = FIVE
        self.assertEqual(
            [turn_chance(line, 2), mean_turns(line), turns_chances(line), end_chance(line, (0, 1, 1, 1, 0)),
             first_chance(line, 2, 1)],
            [(1, 3), (5, 3), ((0, 1), (1, 3), (2, 3)), (1, 3), (1, 3)])

    def test_hands(self):
        line = FIVE
        self.assertEqual(
            [worth(line), last_hand(line), winning_cells(line), turns_value(line, True), turns_value(line, False)],
            [2, True, (2,), 2, 1])

    def test_paint(self):
        some = ((0, 1, 1, 0, 1), (), False)
        self.assertEqual(
            [cheapest_paint(some, (0, 0, 0, 0, 0), (9, 2, 3, 1, 1), 2),
             fewest_painted(some, (None, None, None, 1, 1), 2), one_colour(some, 2),
             kept_cells(((0, 0, 0), (), False), 2)],
            [(3, (0, 0, 1, 0, 0)), 0, ((0, 2), (1, 1)), (1, 2, 1)])
        self.assertIs(shows_paint(some, (0, 0, 0, 0, 0), (9, 2, 3, 1, 1), 2, (3, (0, 0, 1, 0, 0))), True)

    def test_sights(self):
        frame, none = (3, (), False), (None, None, None)
        self.assertEqual(
            [fit_count(frame, ((0, None, 0), none), 2), least_fit(frame, (none, (0, 0, 0)), 2),
             sure_colours(frame, ((0, None, 0), none), 2), next_asked(frame, (none, (0, 0, 0)), 2),
             told_times(frame, (none, (0, 0, 0)), 2)],
            [2, (0, 0, 0), ((0, None, 0), (0, 0, 0)), 1, (1, 1)])
        self.assertEqual(possible_colours(frame, (none, (0, 0, 0)), 2), (((0,), (0, 1), (0,)), ((0,), (0,), (0,))))

    def test_holds(self):
        line = FIVE
        self.assertEqual(
            [fewest_holds(line, (0, 1, 0, 1, 0)), held_rest(line, (2,))[0], hold_effects(line),
             shows_holds(line, (0, 1, 1, 1, 0), (2, (1, 3)))],
            [(3, (1, 2, 3)), (0, 0, 0, 0, 0), (0, 2, 0, 2, 0), True])

    def test_wishes(self):
        line = FIVE
        self.assertEqual(
            [wished_ends(line, (None, 1, None, None, None)), fewest_to(line, (0, 0, None, 0, 0)),
             cheapest_end(line, (0, 4, 5, 4, 0)), dearest_end(line, (0, 4, 5, 4, 0)),
             step_cost(line, (0, 4, 5, 4, 0))],
            [1, 2, (5, (0, 1, 1, 1, 0)), (8, (0, 0, 0, 0, 0)), 18])
        self.assertEqual([wished_end(line, (None, 1, None, None, None)), most_to(line, (0, 0, None, None, 0))],
                         [(0, 1, 1, 1, 0), 2])

    def test_between(self):
        line = FIVE
        self.assertEqual(
            [turns_between(line, (0, 0, 0, 0, 0)), common_count(line, (0, 0, 0, 1, 0), (0, 1, 0, 0, 0)),
             last_common(line, (0, 0, 0, 0, 0), (0, 0, 0, 1, 0)), joined_turns(line, (0, 1, 1, 1, 0), (0, 0, 0, 0, 0))],
            [2, 1, (0, 0, 0, 1, 0), None])

    def test_freely(self):
        four = ((0, 1, 0, 1), (), False)
        self.assertEqual(
            [free_count(four), free_ends(four), is_free(four, (0, 0, 1, 1)), free_time(four, (1, 1, 1, 1))],
            [4, [(0, 0, 0, 1), (0, 0, 1, 1), (0, 1, 1, 1)], True, None])

    def test_odds(self):
        three = (3, (), False)
        self.assertEqual(
            [rest_chances(three, (1, 2), 1), time_chances(three, (1, 1)), swing_chance((4, (), True), (1, 1)),
             all_chance(three, (1, 1), 0)],
            [((7, 27), (20, 27)), ((3, 4), (1, 4)), (1, 8), (1, 4)])

    def test_ranks(self):
        self.assertEqual(
            [rest_number(((0, 1, 1), (), False), 2), rest_at((3, (), False), 2, 2)[0],
             next_rest(((0, 1, 0), (), False), 2)[0]],
            [2, (0, 1, 1), (0, 1, 1)])

    def test_seeing(self):
        line = FIVE
        self.assertEqual(
            [seen(line, 2, 3), seen_count((3, (), False), 2, 1, (1, 0)), can_be_seen((0, 1, 0, 0)),
             can_be_seen((0, 0, 1))],
            [(0, 1, 0, 0), 1, True, False])

    def test_joins(self):
        four, ring = ((0, 1, 0, 1), (), False), ((0, 1, 0, 1), (1,), True)
        self.assertEqual(
            [joined(four, four)[0], mirrored(four)[0], shifted(ring, 1), opened(ring, 1)],
            [(0, 1, 0, 1, 0, 1, 0, 1), (1, 0, 1, 0), ((1, 0, 1, 0), (0,), True), ((1, 0, 1, 0, 1), (), False)])
        self.assertEqual(renamed(ring, (1, 0, 2, 3, 4, 5, 6, 7, 8, 9)), ((1, 0, 1, 0), (1,), True))

    def test_webs(self):
        four, line = ((0, 1, 0, 1), (), False), FIVE
        self.assertEqual(
            [web_time((four, line)), web_ends((four, line)), web_turns((four, line)), web_mean((four, line)),
             web_worth((four, line)), web_moves((four, four)), web_moves((four, line))],
            [2, 4, (0, 0, 2, 2), (8, 3), 3, (), ((1, 1), (1, 3))])
        self.assertEqual(web_rest((four, line)), (((0, 0, 1, 1), (), False), ((0,) * 5, (), False)))

    def test_freeing(self):
        line = FIVE
        self.assertEqual([freed_rest(line, (2,), 1)[0], freed_rest(line, (1,), 1)[0], freed_time(line, (1,), 0)],
                         [(0, 0, 0, 0, 0), (0, 1, 1, 0, 0), 2])

    def test_painters(self):
        frame = (3, (), False)
        self.assertEqual([painters_value(frame, (None, None, None)), painters_cells(frame, (0, 1, None))], [1, (2,)])

    def test_pictures(self):
        self.assertEqual(
            [picture(((0, 1, 0, 1), (), False)), read_picture(("0101", "0011")), read_picture(("0101",))],
            [("0101", "0011"), ((0, 1, 0, 1), (), False), None])

    def test_desk(self):
        desk = Desk(FIVE)
        self.assertEqual(
            [desk.run("ready"), desk.run("turn 2"), desk.run("line"), desk.run("worth"), desk.undo(),
             desk.run("hold 1"), desk.run("step"), desk.run("line"), desk.steps],
            ["1 2 3", None, "01110", "0", None, None, None, "01*100", ("hold 1", "step")])
        desk.undo()
        self.assertEqual([desk.redo(), desk.line], [None, ((0, 1, 1, 0, 0), (1,), False)])

    def test_gardens(self):
        self.assertEqual(
            [garden_count((3, (), False), 2), least_garden((3, (), False), 2), age_counts((3, (), False), 2)],
            [2, (0, 1, 0), (6, 2)])

    def test_comers(self):
        line = FIVE
        self.assertEqual(
            [come_number(line, (0, 0, 0, 0, 0)), come_at(line, 4), first_come(line), last_come(line),
             come_between(line, (0, 0, 0, 0, 0), (0, 1, 0, 1, 0))],
            [0, (0, 1, 1, 1, 0), (0, 0, 0, 0, 0), (0, 1, 1, 1, 0), 4])
