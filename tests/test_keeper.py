"""Point 29: a wedge and its developed table kept together."""

from fractions import Fraction
from random import Random

from lagwedge.developed import developed, ends
from lagwedge.errors import BadWedge, NoCell, NoFactor, NothingBack
from lagwedge.keeper import Keeper
from lagwedge.ladder import steps
from lagwedge.parts import minus
from lagwedge.reach import reach
from lagwedge.wedge import Wedge
from tests.cases import Case, spoil
from tests.plainly import developed_of, factors_of
from tests.samples import MANY, NOT_PARTS, NOT_WHOLE, all_wedges, as_rows, growing_wedges, pair, wedge_of_cells

PLAIN = wedge_of_cells(2001, 2, [[4, 2, 3], [6, 3, 9], [10, 1], [5]])
# The first step leads from nought to nought until a cell is moved.
IDLE = wedge_of_cells(2001, 1, [[0, 0], [7]])


def told(keeper):
    return (keeper.table(), keeper.tops(), keeper.now(), keeper.anew)


def back_to_the_end(keeper):
    """How many moves can be taken back; all of them are."""
    count = 0
    try:
        while True:
            keeper.take_back()
            count += 1
    except NothingBack:
        return count


def kept():
    """Wedges that have factors at all steps."""
    return [wedge for wedge in growing_wedges() + all_wedges() if isinstance(factors_of(wedge), list)]


class KeeperCase(Case):

    def stands(self, keeper, wedge, anew):
        """The keeper tells just what is told of the wedge anew."""
        self.assertEqual(keeper.now(), wedge)
        self.assertEqual(keeper.table(), as_rows(developed_of(wedge, factors_of(wedge))))
        self.assertEqual(keeper.table(), developed(wedge))
        self.assertEqual(keeper.tops(), ends(wedge))
        self.assertIs(type(keeper.anew), int)
        self.assertEqual(keeper.anew, anew)

    def leaves_keeper(self, keeper, kind, fields, call, *given):
        """A call that is refused turns nothing of a keeper."""
        before = told(keeper)
        self.refuses(kind, fields, call, *given)
        self.assertEqual(told(keeper), before)


class Keeping(KeeperCase):

    def test_at_first(self):
        for wedge in kept():
            self.stands(Keeper(wedge), wedge, 0)

    def test_one_move(self):
        keeper = Keeper(PLAIN)
        # All of the cell's own year, and the sums that aren't known of the years behind.
        self.assertEqual(keeper.move(2001, 0, (1, 2)), len(reach(4, 2, 0, 0)))
        self.stands(keeper, PLAIN.changed(2001, 0, (1, 2)), len(reach(4, 2, 0, 0)))
        self.assertEqual(keeper.anew, 6)

    def test_every_cell_of_every_wedge(self):
        moved = 0
        for wedge in kept()[::3]:
            for place, row in enumerate(wedge.rows()):
                for lag in range(len(row)):
                    keeper = Keeper(wedge)
                    turned = wedge.changed(wedge.first + place, lag, (5, 7))
                    if isinstance(factors_of(turned), list):
                        places = len(reach(len(wedge), wedge.depth, place, lag))
                        self.assertEqual(keeper.move(wedge.first + place, lag, (5, 7)), places)
                        self.stands(keeper, turned, places)
                        self.assertEqual(keeper.take_back(), places)
                        self.stands(keeper, wedge, 2 * places)
                        moved += 1
        self.assertGreater(moved, 1000)

    def test_cells_brought_to_nought(self):
        keeper = Keeper(PLAIN)
        wedge, anew = PLAIN, 0
        for year, lag in ((2004, 0), (2003, 1), (2002, 2), (2001, 2), (2002, 1), (2001, 1)):
            amount = minus((0, 1), wedge.cell(year, lag))
            wedge = wedge.changed(year, lag, amount)
            anew += keeper.move(year, lag, amount)
            self.stands(keeper, wedge, anew)
        self.assertEqual(keeper.tops(), [(4, 1), (6, 1), (10, 1), (0, 1)])

    def test_a_move_by_nought(self):
        keeper = Keeper(PLAIN)
        self.assertEqual(keeper.move(2003, 1, (0, 1)), len(reach(4, 2, 2, 1)))
        self.stands(keeper, PLAIN, len(reach(4, 2, 2, 1)))
        self.assertEqual(keeper.take_back(), len(reach(4, 2, 2, 1)))

    def test_by_names(self):
        keeper = Keeper(wedge=PLAIN)
        self.assertEqual(keeper.move(amount=(1, 1), lag=0, year=2004), 3)
        self.assertEqual(keeper.grow(adds=[(1, 1)] * 5), 15)
        self.stands(keeper, PLAIN.changed(2004, 0, (1, 1)).grown([(1, 1)] * 5), 18)


class AnySteps(KeeperCase):

    def test_any_to_one_and_back(self):
        keeper = Keeper(IDLE)
        self.assertEqual(steps(keeper.now())[0][0], "any")
        self.assertEqual(keeper.tops(), [(0, 1), (7, 1)])
        self.assertEqual(keeper.move(2001, 0, (2, 1)), 3)
        self.assertEqual(steps(keeper.now())[0][0], "one")
        self.stands(keeper, IDLE.changed(2001, 0, (2, 1)), 3)
        self.assertEqual(keeper.move(2001, 1, (3, 1)), 2)
        self.assertEqual(keeper.tops(), [(5, 1), (35, 2)])
        self.assertEqual([keeper.take_back(), keeper.take_back()], [2, 3])
        self.stands(keeper, IDLE, 10)
        self.assertEqual(steps(keeper.now())[0][0], "any")

    def test_one_to_any_and_back(self):
        wedge = wedge_of_cells(2001, 2, [[4, 2, 0], [3, -1], [7]])
        keeper = Keeper(wedge)
        # The second step comes to lead from nought to nought.
        keeper.move(2001, 1, (-6, 1))
        self.assertEqual([step[0] for step in steps(keeper.now())], ["one", "any"])
        self.stands(keeper, wedge.changed(2001, 1, (-6, 1)), len(reach(3, 2, 0, 1)))
        self.assertEqual(keeper.tops(), [(0, 1), (2, 1), (2, 1)])
        keeper.take_back()
        self.stands(keeper, wedge, 2 * len(reach(3, 2, 0, 1)))

    def test_a_step_that_no_year_knows_by_growing(self):
        wedge = wedge_of_cells(2001, 2, [[5]])
        keeper = Keeper(wedge)
        self.assertEqual(keeper.table(), [[(5, 1)] * 3])
        self.assertEqual(keeper.grow([(5, 1), (4, 1)]), 6)
        self.assertEqual(keeper.table(), [[(5, 1), (10, 1), (10, 1)], [(4, 1), (8, 1), (8, 1)]])
        self.stands(keeper, wedge.grown([(5, 1), (4, 1)]), 6)


class Growing(KeeperCase):

    def test_grown(self):
        for wedge in kept():
            if len(wedge) == 10:
                continue
            adds = [(3 + place, 2 if place % 2 == 0 else 1) for place in range(len(wedge) + 1)]
            adds = [pair(Fraction(*add)) for add in adds]
            later = wedge.grown(adds)
            if isinstance(factors_of(later), list):
                keeper = Keeper(wedge)
                places = len(later) * (wedge.depth + 1)
                self.assertEqual(keeper.grow(adds), places)
                self.stands(keeper, later, places)

    def test_moves_stand_for_good(self):
        keeper = Keeper(PLAIN)
        anew = keeper.move(2001, 0, (1, 1)) + keeper.move(2002, 1, (1, 3))
        anew += keeper.grow([(1, 1)] * 5)
        wedge = PLAIN.changed(2001, 0, (1, 1)).changed(2002, 1, (1, 3)).grown([(1, 1)] * 5)
        self.stands(keeper, wedge, anew)
        self.leaves_keeper(keeper, NothingBack, {}, keeper.take_back)
        anew += keeper.move(2005, 0, (2, 1))
        self.assertEqual(keeper.take_back(), 3)
        self.stands(keeper, wedge, anew + 3)
        self.leaves_keeper(keeper, NothingBack, {}, keeper.take_back)


class TakingBack(KeeperCase):

    def test_nothing_back_at_the_beginning(self):
        keeper = Keeper(PLAIN)
        self.leaves_keeper(keeper, NothingBack, {}, keeper.take_back)

    def test_one_behind_the_other(self):
        keeper = Keeper(PLAIN)
        places = [keeper.move(2001, 0, (1, 1)), keeper.move(2004, 0, (-1, 2)), keeper.move(2002, 2, (3, 1))]
        anew = sum(places)
        for count in (2, 1, 0):
            self.assertEqual(keeper.take_back(), places[count])
            anew += places[count]
            wedge = PLAIN
            for year, lag, amount in ((2001, 0, (1, 1)), (2004, 0, (-1, 2)))[:count]:
                wedge = wedge.changed(year, lag, amount)
            self.stands(keeper, wedge, anew)
        self.leaves_keeper(keeper, NothingBack, {}, keeper.take_back)

    def test_moves_behind_a_taking_back(self):
        keeper = Keeper(PLAIN)
        keeper.move(2001, 0, (1, 1))
        keeper.move(2002, 0, (2, 1))
        keeper.take_back()
        keeper.move(2003, 0, (3, 1))
        keeper.take_back()
        self.assertEqual(keeper.now(), PLAIN.changed(2001, 0, (1, 1)))
        keeper.take_back()
        self.assertEqual(keeper.now(), PLAIN)
        self.leaves_keeper(keeper, NothingBack, {}, keeper.take_back)


class Scripts(KeeperCase):

    def script(self, seed, wedge):
        """Many deeds, those that are refused among them."""
        chance = Random(seed)
        keeper, moves, anew = Keeper(wedge), [], 0
        for _ in range(25):
            deed = chance.randrange(6)
            place = chance.randrange(len(wedge))
            lag = chance.randrange(len(wedge.rows()[place]) + 1)
            amount = pair(Fraction(chance.randrange(-9, 10), chance.randrange(1, 4)))
            adds = [pair(Fraction(chance.randrange(-3, 9))) for _ in range(len(wedge) + 1)]
            try:
                if deed == 0:
                    anew += keeper.grow(adds)
                    wedge, moves = wedge.grown(adds), []
                elif deed == 1:
                    keeper.take_back()
                    wedge, places = moves.pop()
                    anew += places
                else:
                    places = keeper.move(wedge.first + place, lag, amount)
                    moves.append((wedge, len(reach(len(wedge), wedge.depth, place, lag))))
                    self.assertEqual(places, moves[-1][1])
                    wedge, anew = wedge.changed(wedge.first + place, lag, amount), anew + places
            except (NothingBack, NoCell, NoFactor, BadWedge):
                pass
            self.stands(keeper, wedge, anew)
        self.assertEqual(back_to_the_end(keeper), len(moves))

    def test_scripts(self):
        for seed, wedge in enumerate(kept()[::7]):
            self.script(seed, wedge)


class Refused(KeeperCase):

    def test_keeper_without_factor(self):
        count = 0
        for wedge in all_wedges():
            step = factors_of(wedge)
            if not isinstance(step, list):
                _, below, above, _ = steps(wedge)[step]
                self.refuses(NoFactor, {"step": step, "below": below, "above": above}, Keeper, wedge)
                count += 1
        self.assertGreater(count, 2)

    def test_move_without_cell(self):
        keeper = Keeper(PLAIN)
        keeper.move(2001, 0, (1, 1))
        for year in [2000, 2005, 0, -1, MANY, *NOT_WHOLE]:
            self.leaves_keeper(keeper, NoCell, {"year": year, "lag": 0}, keeper.move, year, 0, (1, 1))
        for lag in [-1, 1, 2, 3, MANY, *NOT_WHOLE]:
            self.leaves_keeper(keeper, NoCell, {"year": 2004, "lag": lag}, keeper.move, 2004, lag, (1, 1))
        self.assertEqual(back_to_the_end(keeper), 1)

    def test_move_without_factor(self):
        keeper = Keeper(PLAIN)
        keeper.move(2003, 0, (1, 1))
        fields = {"step": 0, "below": (0, 1), "above": (6, 1)}
        self.leaves_keeper(keeper, NoFactor, fields, keeper.move, 2001, 0, (-21, 1))
        self.assertEqual(back_to_the_end(keeper), 1)
        self.assertEqual(keeper.now(), PLAIN)

    def test_no_cell_goes_ahead_of_no_factor(self):
        keeper = Keeper(PLAIN)
        self.leaves_keeper(keeper, NoCell, {"year": 2003, "lag": 2}, keeper.move, 2003, 2, (-20, 1))

    def test_growing_refused(self):
        keeper = Keeper(PLAIN)
        keeper.move(2001, 1, (1, 1))
        for adds in ([(1, 1)] * 4, [(1, 1)] * 6, [], tuple([(1, 1)] * 5), None, True, "abcde", 5):
            self.leaves_keeper(keeper, BadWedge, {"row": -1}, keeper.grow, adds)
        for place in range(5):
            for wrong in NOT_PARTS:
                adds = [(1, 1)] * place + [wrong] * (5 - place)
                self.leaves_keeper(keeper, BadWedge, {"row": place}, keeper.grow, adds)
        self.assertEqual(back_to_the_end(keeper), 1)

    def test_growing_beyond_ten_years(self):
        wedge = [wedge for wedge in growing_wedges() if len(wedge) == 10][0]
        keeper = Keeper(wedge)
        self.leaves_keeper(keeper, BadWedge, {"row": -1}, keeper.grow, [(1, 1)] * 11)

    def test_growing_without_factor(self):
        keeper = Keeper(wedge_of_cells(2001, 1, [[0, 0], [3]]))
        keeper.move(2002, 0, (-3, 1))
        fields = {"step": 0, "below": (0, 1), "above": (5, 1)}
        self.leaves_keeper(keeper, NoFactor, fields, keeper.grow, [(0, 1), (5, 1), (1, 1)])
        self.assertEqual(back_to_the_end(keeper), 1)
        self.assertEqual(keeper.now().cell(2002, 0), (3, 1))


class Alone(KeeperCase):

    def test_two_keepers_of_one_wedge(self):
        one, other = Keeper(PLAIN), Keeper(PLAIN)
        one.move(2001, 0, (1, 1))
        one.grow([(1, 1)] * 5)
        self.stands(other, PLAIN, 0)
        self.assertEqual(back_to_the_end(other), 0)
        other.move(2002, 0, (7, 1))
        self.assertEqual(one.now(), PLAIN.changed(2001, 0, (1, 1)).grown([(1, 1)] * 5))

    def test_the_wedge_stays_as_it_was(self):
        wedge = Wedge(2001, 2, PLAIN.rows())
        keeper = Keeper(wedge)
        keeper.move(2001, 0, (1, 1))
        keeper.grow([(1, 1)] * 5)
        self.assertEqual(wedge, PLAIN)
        earlier = keeper.now()
        rows = earlier.rows()
        keeper.move(2001, 0, (1, 1))
        self.assertEqual(earlier.rows(), rows)

    def test_every_list_is_told_anew(self):
        keeper = Keeper(PLAIN)
        keeper.move(2001, 0, (1, 1))
        before = (developed(keeper.now()), ends(keeper.now()), PLAIN.changed(2001, 0, (1, 1)))
        for told_list in (keeper.table(), keeper.tops(), keeper.now().rows(), keeper.now().years()):
            spoil(told_list)
        self.assertEqual((keeper.table(), keeper.tops(), keeper.now()), before)
        keeper.take_back()
        self.stands(keeper, PLAIN, 12)

    def test_adds_are_not_kept(self):
        keeper = Keeper(PLAIN)
        adds = [(1, 1), (2, 1), (3, 1), (4, 1), (5, 1)]
        keeper.grow(adds)
        self.assertEqual(adds, [(1, 1), (2, 1), (3, 1), (4, 1), (5, 1)])
        adds.clear()
        self.stands(keeper, PLAIN.grown([(1, 1), (2, 1), (3, 1), (4, 1), (5, 1)]), 15)
