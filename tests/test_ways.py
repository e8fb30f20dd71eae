import unittest

from makers import some_programs
from plain_rows import PlainMachine
from test_programs import PROGRAM
from warmrows.rows import book_of
from warmrows.ways import first_catch, is_way, leads_of, ways_in

# Rows of each word that leads otherwise, and two catches, of which the first holds the fewer rows.
ROWS = (
    ("mark", 0), ("push", 1), ("unless", 5), ("push", None), ("throw",), ("push", 2), ("keep", 8), ("push", 3),
    ("round", 10), ("go", 0), ("push", 0), ("ask", "go", 0), ("pop",), ("push", 4), ("give",),
)
BODY = (ROWS, ((3, 6, 10, 0), (2, 9, 13, 0), (0, 15, 12, 0)), 0, 1)
BARE = (ROWS, (), 0, 1)


class StepsInWays(PlainMachine):
    """A machine that keeps the rows that each of its frames has run."""

    def __init__(self, book, limit):
        self.ways = []
        PlainMachine.__init__(self, book, limit)

    def enter(self, body, home, me, args):
        PlainMachine.enter(self, body, home, me, args)
        self.frames[-1]["way"] = []
        self.ways.append((body, self.frames[-1]["way"]))

    def one_row(self):
        frame = self.frames[-1]
        if frame["way"][-1:] != [frame["row"]] or frame["row"] == 0:
            frame["way"].append(frame["row"])
        PlainMachine.one_row(self)


class TestLeads(unittest.TestCase):
    def test_without_catches(self):
        leads = [leads_of(BARE, row) for row in range(len(ROWS))]
        self.assertEqual(leads, [(1,), (2,), (3, 5), (4,), (), (6,), (7, 8), (8,), (9, 10), (0,), (11,), (12,), (13,),
                                 (14,), ()])

    def test_with_catches(self):
        leads = [leads_of(BODY, row) for row in range(len(ROWS))]
        self.assertEqual(leads, [(1, 12), (2, 12), (3, 5, 13), (4, 10), (10,), (6, 10), (7, 8, 13), (8, 13),
                                 (9, 10, 13), (0, 12), (11, 12), (12, 12), (13, 12), (14, 12), (12,)])

    def test_first_catch(self):
        self.assertIsNone(first_catch(BARE, 3))
        self.assertEqual([first_catch(BODY, row)[2] for row in range(len(ROWS))],
                         [12, 12, 13, 10, 10, 10, 13, 13, 13] + [12] * 6)
        empty = (ROWS, ((4, 4, 10, 0),), 0, 1)
        self.assertIsNone(first_catch(empty, 4))
        self.assertIsNone(first_catch(empty, 3))

    def test_no_row_of_a_program_leads_to_one_twice(self):
        for one in [PROGRAM] + list(some_programs("leads", 150)):
            for body in book_of(one)[1]:
                for row in range(len(body[0])):
                    leads = leads_of(body, row)
                    self.assertEqual(len(set(leads)), len(leads))
                    for lead in leads:
                        self.assertIn(lead, range(len(body[0])))
                        if lead <= row:
                            self.assertEqual(body[0][lead][0], "mark")


class TestWays(unittest.TestCase):
    def test_is_way(self):
        for way in ((0,), (0, 1), (0, 1, 2, 3, 4), (0, 1, 2, 5, 6, 8, 9, 0, 1),
                    (0, 1, 2, 5, 6, 7, 8, 10, 11, 12, 13, 14)):
            self.assertIs(is_way(BARE, way), True, way)
        for way in ((), (1,), (1, 2), (0, 2), (0, 0), (0, 1, 2, 4), (0, 1, 2, 3, 4, 5), (0, 12),
                    (0, 1, 2, 5, 6, 8, 9, 10)):
            self.assertIs(is_way(BARE, way), False, way)
        for way in ((0, 12), (0, 1, 2, 13, 14, 12), (0, 1, 2, 3, 4, 10, 12)):
            self.assertIs(is_way(BODY, way), True, way)

    def test_ways_in(self):
        for body in (BODY, BARE):
            for row, way in enumerate(ways_in(body)):
                self.assertTrue(is_way(body, way))
                self.assertEqual(way[-1], row)
        self.assertEqual(ways_in(BODY)[12], (0, 12))
        self.assertEqual(ways_in(((("mark", 0), ("go", 3), ("push", 1), ("push", 2), ("give",)), (), 0, 1)),
                         ((0,), (0, 1), None, (0, 1, 3), (0, 1, 3, 4)))

    def test_ways_in_are_the_shortest(self):
        for one in some_programs("shortest", 60):
            for body in book_of(one)[1]:
                ways = ways_in(body)
                for row, way in enumerate(ways):
                    for lead in leads_of(body, row) if way else ():
                        self.assertLessEqual(len(ways[lead]), len(way) + 1)

    def test_a_catch_without_rows_leads_nowhere(self):
        body = ((("mark", 0), ("go", 3), ("set", 1), ("push", None), ("give",)), ((1, 1, 2, 0),), 0, 2)
        self.assertEqual(ways_in(body)[2], None)

    def test_what_is_run_goes_along_a_way(self):
        many = 0
        for one in some_programs("ways", 150):
            book = book_of(one)
            machine = StepsInWays(book, 200)
            machine.told()
            for number, way in machine.ways:
                many += len(way)
                self.assertTrue(is_way(book[1][number], tuple(way)), way)
                for row in way:
                    self.assertIsNotNone(ways_in(book[1][number])[row])
        self.assertGreater(many, 2000)
