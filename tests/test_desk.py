"""Point 42: lines that a desk is asked, and what it tells."""

from random import Random

from lagwedge.book import Book
from lagwedge.cells import by_damage, wedge_of
from lagwedge.desk import Desk
from lagwedge.developed import ends, still_sum
from lagwedge.errors import BadDeed
from lagwedge.pages import read_book, written
from lagwedge.parts import shown_part
from lagwedge.split import split
from tests.cases import Case
from tests.plainbook import KINDS, REFUSALS, PlainBook, do, some_deed
from tests.samples import MANY, NOT_WHOLE

DEEDS = [
    ("notice 0 2001 2001", "damage 1"), ("notice 0 2002 2003", "damage 2"), ("notice 0 2002 2002", "damage 3"),
    ("pay 1 2001 40", "row 4"), ("pay 1 2002 20", "row 5"), ("pay 2 2003 30", "row 6"), ("pay 3 2002 10", "row 7"),
    ("gain 2 2004 5", "row 8"), ("guess 1 2003 -7", "row 9"), ("close 1 2004", "row 10"), ("reopen 1 2005", "row 11"),
    ("shift 2 2001", "row 12"), ("strike 5", "row 13"), ("merge 3 2", "row 14"), ("drop 2", "row 15"),
]
PAGE = """lagwedge 2001 2
notice 0 2001 2001
notice 0 2002 2003
notice 0 2002 2002
pay 1 2001 40
pay 1 2002 20
pay 2 2003 30
pay 3 2002 10
gain 2 2004 5
guess 1 2003 -7
close 1 2004 7
reopen 1 2005
shift 2 2001
strike 5
merge 3 2
drop 2"""
NO_FORM = [
    "", " ", "  ", "\n", "x", "Undo", "UNDO", "undo ", " undo", "undo 1", "redo 1", "rows 1", "rows\n", "undo\n", "row", "ends",
    "notice", "notice 0 2001", "notice 0 2001 2001 1", "notice  0 2001 2001", "notice 0 2001 2001 ", " notice 0 2001 2001",
    "notice 0 2001 x", "notice 00 2001 2001", "notice -0 2001 2001", "notice +0 2001 2001", "notice 0 2001 2001.0",
    "notice 0\t2001 2001", "notice 0 2001 2001\n", "notice 0,2001,2001", "notice all 2001 2001", "Notice 0 2001 2001",
    "pay 1 2001", "pay 1 2001 5 5", "pay 1 2001 5/1", "pay 1 2001 05", "pay 1 2001 1/2", "pay 1 2001 \u0665", "pay one 2001 5",
    "close 1 2001 0", "close 1", "close 1 2001 -5", "reopen 1", "reopen 1 2001 1", "shift 1", "shift 1 2001 1", "merge 1",
    "merge 1 2 3", "strike", "strike 1 2", "strike x", "drop", "drop 1 2", "drop all", "damages", "about 1", "movements paid 0",
    "pay 1 2001 1000000000000", "drop 1000000000000", "drop -100000000000", "strike 9999999999999", "shift 1 " + "9" * 5000,
    "ends paid all", "ends paid 2003", "ends paid all 2003 1", "ends paid all 2003 ", "ends  all 2003", "ends paid  2003",
    "ends paid all  2003", "ends paid all x", "ends paid all 02003", "ends paid x 2003", "ends paid All 2003",
    "ends paid None 2003", "ends paid 0/1 2003", "ends paid 00 2003", "ends paid -0 2003", "ends paid all all",
    "ends paid all 2003\n", "ends paid all 1000000000000", "ends paid 1000000000000 2003", "still paid all",
    "columns paid all", "causes paid all", "ends foo x 2003", "ends foo all x", "still  0 2003", "causes paid all +2003",
    "split paid all 2003", "shares paid all 2003", "Ends paid all 2003", "lagwedge 2001 2",
]


def some():
    desk = Desk(2001, depth=2)
    for line, _ in DEEDS[:11]:
        desk.ask(line)
    return desk


def shown(parts):
    return " ".join(shown_part(one) for one in parts)


class Desks(Case):

    def test_books_that_are_refused(self):
        for first in [-1, 10000, MANY, *NOT_WHOLE]:
            self.refuses(BadDeed, {}, Desk, first)
        for depth in [0, 7, MANY, *NOT_WHOLE]:
            self.refuses(BadDeed, {}, Desk, 2001, depth=depth)

    def test_first_and_depth(self):
        self.assertEqual(Desk(2001).ask("rows"), "lagwedge 2001 6")
        self.assertEqual(Desk(first=9999, depth=1).ask(line="rows"), "lagwedge 9999 1")

    def test_two_desks(self):
        one, other = Desk(2001), Desk(2001)
        one.ask("notice 0 2001 2001")
        self.assertEqual(other.ask("rows"), "lagwedge 2001 6")
        self.assertEqual(other.ask("undo"), "refused NothingBack")
        self.assertEqual(other.ask("notice 1 2002 2002"), "damage 1")
        self.assertEqual(one.ask("undo"), "notice 0 2001 2001")
        self.assertEqual(other.ask("redo"), "refused NothingBack")
        self.assertEqual(one.ask("redo"), "notice 0 2001 2001")


class Deeds(Case):

    def test_each_deed(self):
        desk = Desk(2001, depth=2)
        for line, told in DEEDS:
            self.assertEqual(desk.ask(line), told)
        self.assertEqual(desk.ask("rows"), PAGE)

    def test_undo_and_redo(self):
        desk = Desk(2001, depth=2)
        for line, _ in DEEDS:
            desk.ask(line)
        lines = PAGE.split("\n")
        for place in range(len(lines) - 1, 0, -1):
            self.assertEqual(desk.ask("undo"), lines[place])
            self.assertEqual(desk.ask("rows"), "\n".join(lines[:place]))
        self.assertEqual(desk.ask("undo"), "refused NothingBack")
        for place in range(1, len(lines)):
            self.assertEqual(desk.ask("redo"), lines[place])
        self.assertEqual(desk.ask("redo"), "refused NothingBack")
        self.assertEqual(desk.ask("rows"), PAGE)

    def test_the_last_row_of_a_book(self):
        desk = Desk(2001)
        told = [desk.ask("notice 0 2001 2001") for _ in range(121)]
        self.assertEqual(told, [f"damage {number}" for number in range(1, 121)] + ["refused Full"])
        self.assertEqual(len(desk.ask("rows").split("\n")), 121)


class Questions(Case):

    def test_plain(self):
        desk = Desk(2001, depth=1)
        for line in ("notice 0 2001 2001", "pay 1 2001 4", "pay 1 2002 6", "notice 1 2002 2002", "pay 2 2002 7"):
            desk.ask(line)
        self.assertEqual(desk.ask("ends paid all 2002"), "10 35/2")
        self.assertEqual(desk.ask("still paid all 2002"), "21/2")
        self.assertEqual(desk.ask("columns paid all 2002"), "2/5 3/5")
        self.assertEqual(desk.ask("causes paid all 2002"), "1:0 2:21/2")
        self.assertEqual(desk.ask("ends paid 0 2002"), "10 0")
        self.assertEqual(desk.ask("still paid 0 2002"), "0")
        self.assertEqual(desk.ask("columns paid 0 2002"), "2/5 3/5")
        self.assertEqual(desk.ask("causes paid 0 2002"), "1:0")
        self.assertEqual(desk.ask("ends paid 1 2001"), "0")
        self.assertEqual(desk.ask("causes paid 2 2002"), "")
        self.assertEqual(desk.ask("causes back all 2010"), "")
        self.assertEqual(desk.ask("columns noticed all 2001"), "1 0")
        desk.ask("gain 2 2002 9")
        self.assertEqual(desk.ask("still net all 2002"), "-3")
        self.assertEqual(desk.ask("causes net all 2002"), "1:0 2:-3")

    def test_against_what_is_told_of_the_page(self):
        desk = some()
        book = read_book(desk.ask("rows"))
        for kind in KINDS:
            for branch in (0, 1, None):
                for look in range(2001, 2011):
                    asked = f"{kind} {'all' if branch is None else branch} {look}"
                    self.tells(desk, "ends " + asked, lambda: shown(ends(wedge_of(book, branch, kind, look))))
                    self.tells(desk, "still " + asked, lambda: shown_part(still_sum(wedge_of(book, branch, kind, look))))
                    self.tells(desk, "columns " + asked, lambda: shown(split(wedge_of(book, branch, kind, look))[1]))
                    self.tells(desk, "causes " + asked, lambda: " ".join(
                        f"{number}:{shown_part(one)}" for number, one in by_damage(book, branch, kind, look)))
        self.assertEqual(desk.ask("rows"), written(book))

    def tells(self, desk, line, call):
        """The desk tells what the call tells, be it a refusal."""
        try:
            told = call()
        except REFUSALS as refusal:
            told = f"refused {type(refusal).__name__}"
        self.assertEqual(desk.ask(line), told)

    def test_behind_a_deed_its_undoing_and_another_deed(self):
        desk = some()
        lines = [f"{question} paid all 2003" for question in ("ends", "still", "causes", "columns")]
        first = [desk.ask(line) for line in lines]
        desk.ask("pay 2 2003 60")
        second = [desk.ask(line) for line in lines]
        self.assertNotEqual(first, second)
        desk.ask("undo")
        self.assertEqual([desk.ask(line) for line in lines], first)
        desk.ask("redo")
        self.assertEqual([desk.ask(line) for line in lines], second)
        desk.ask("undo")
        desk.ask("pay 2 2003 61")
        third = [desk.ask(line) for line in lines]
        self.assertNotIn(third, (first, second))
        self.assertEqual(desk.ask("redo"), "refused NothingBack")


class Refused(Case):

    def leaves_desk(self, desk, line, told):
        """What is refused turns neither the rows nor what waits to be done again."""
        before = desk.ask("rows")
        self.assertEqual(desk.ask(line), told, line)
        self.assertEqual(desk.ask("rows"), before)

    def test_lines_of_no_form(self):
        desk = some()
        last = desk.ask("undo")
        for line in NO_FORM:
            self.leaves_desk(desk, line, "refused BadPage")
        for thing in (None, 5, b"undo", ["undo"], True):
            self.leaves_desk(desk, thing, "refused BadPage")
        self.assertEqual(desk.ask("redo"), last)

    def test_each_refusal(self):
        desk = some()
        desk.ask("notice 1 2003 2003")
        desk.ask("notice 0 2001 2001")
        desk.ask("drop 5")
        desk.ask("close 3 2004")
        desk.ask("strike 6")
        for line, word in (
                ("notice 4 2001 2001", "BadDeed"), ("notice -1 2001 2001", "BadDeed"), ("notice 0 2011 2011", "BadDeed"),
                ("pay 1 2001 0", "BadDeed"), ("pay 1 2001 1000001", "BadDeed"), ("pay 1 2001 999999999999", "BadDeed"),
                ("guess 1 2001 -99999999999", "BadDeed"), ("merge 1 1", "BadDeed"), ("strike 1", "BadDeed"),
                ("drop 6", "NoDamage"), ("drop 999999999999", "NoDamage"), ("drop -99999999999", "NoDamage"),
                ("pay 5 2001 1", "Gone"), ("pay 3 2004 1", "Shut"), ("reopen 1 2001", "NotShut"), ("merge 1 4", "Unlike"),
                ("notice 0 2002 2001", "Ahead"), ("pay 4 2001 5", "Ahead"), ("shift 1 2009", "Ahead"),
                ("strike 99", "NoRow"), ("strike 0", "NoRow"), ("strike 6", "Twice"), ("redo", "NothingBack"),
                ("ends foo all 2003", "NoKind"), ("still Paid 0 2003", "NoKind"), ("columns all all 2003", "NoKind"),
                ("causes 1 9 1", "NoKind"), ("ends paid 4 2003", "BadDeed"), ("ends paid -1 2003", "BadDeed"),
                ("ends paid all 2011", "BadDeed"), ("still paid all 2000", "BadDeed"), ("columns paid 7 2003", "BadDeed"),
                ("causes paid 0 999999999999", "BadDeed")):
            self.leaves_desk(desk, line, f"refused {word}")

    def test_no_factor_and_no_split(self):
        desk = Desk(2001, depth=1)
        for line in ("notice 0 2001 2001", "pay 1 2002 5"):
            desk.ask(line)
        for question in ("ends", "still", "columns", "causes"):
            self.leaves_desk(desk, f"{question} paid all 2002", "refused NoFactor")
        for line in ("pay 1 2001 3", "gain 1 2002 8"):
            desk.ask(line)
        self.leaves_desk(desk, "columns net all 2002", "refused NoSplit")
        self.assertEqual(desk.ask("ends net all 2002"), "0 0")
        self.assertEqual(desk.ask("still net all 2002"), "0")
        self.assertEqual(desk.ask("causes net all 2002"), "1:0")

    def test_kinds_that_are_any_words(self):
        for kind in ("x", "paid,", "\t", "paid\n", "0", "-", "undo", "'paid'"):
            self.leaves_desk(some(), f"ends {kind} all 2003", "refused NoKind")


class Scripts(Case):

    def test_scripts(self):
        for seed in range(20):
            chance = Random(seed)
            desk, book, plain = Desk(2001), Book(2001), PlainBook(2001)
            for _ in range(80):
                deed = some_deed(chance, plain)
                due = plain.due(*deed)
                line = " ".join(map(str, deed))
                if due is None:
                    number = do(book, deed)
                    plain.take(plain.row_of(*deed))
                    told = f"damage {number}" if deed[0] == "notice" else f"row {number}"
                else:
                    told = f"refused {due[0].__name__}"
                if any(len(word) > 12 for word in line.split(" ")[1:]):
                    told = "refused BadPage"
                self.assertEqual(desk.ask(line), told)
            self.assertEqual(desk.ask("rows"), written(book))
