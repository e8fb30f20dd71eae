"""Kinds that are changed while a program runs."""

from test_trees import TreeCase, deeds, program
from warmrows.changes import changed
from warmrows.programs import table_of
from warmrows.tables import is_table
from warmrows.trees import run_trees

DEEDS = """deed a go
    give 1
    end
    deed b go
    give 2
    end
    deed a on
    give 3
    end
    deed d go p
    give 4
    end"""


def numbers(told):
    return tuple(row[5] for row in told[4])


class TestChanges(TreeCase):
    def is_changed(self, rows, *changes, heads=deeds(DEEDS)):
        """The table behind these rows is that behind these changes."""
        told = self.told(rows, heads)
        table = table_of(program(rows, heads))
        for change in changes:
            table = changed(table, change)
        self.assertEqual(told[4], table, rows)
        self.assertTrue(is_table(told[4]))
        return told

    def is_thrown(self, row, word):
        """A change that throws a word, and changes nothing, thrown or caught."""
        heads = deeds(DEEDS)
        told = self.faults("tell 1\n" + row, word, 2, heads)
        self.assertEqual(told[4], table_of(program(row, heads)))
        told = self.tells(f"try\n{row}\ntell 1\ncatch v\ntell name v\nend", [word], heads)
        self.assertEqual(told[4], table_of(program(row, heads)))
        self.is_changed(f"strip a on\ntry\n{row}\ncatch v\nend\nstrip a go", ("own", "a", "on", None),
                        ("own", "a", "go", None))

    def test_turn(self):
        self.is_changed("turn a go b go", ("own", "a", "go", 2))
        self.is_changed("turn d on a on", ("own", "d", "on", 3))
        # The look goes along the order: c finds b's go and a's on.
        self.is_changed("turn d go c go", ("own", "d", "go", 2))
        self.is_changed("turn c none c on", ("own", "c", "none", 3))
        self.is_changed("turn b go b go", ("own", "b", "go", 2))
        self.is_changed("turn c go a go\nturn a on c go", ("own", "c", "go", 1), ("own", "a", "on", 1))
        told = self.is_changed("turn a go b go", ("own", "a", "go", 2))
        self.assertEqual(numbers(told), (1, 1, 1, 0))

    def test_turn_of_a_deed_that_is_not_found(self):
        self.is_thrown("turn a go a none", "nodeed")
        self.is_thrown("turn a go d on", "nodeed")
        self.is_thrown("turn a none a none", "nodeed")

    def test_strip(self):
        self.is_changed("strip a go", ("own", "a", "go", None))
        self.is_changed("strip b go\nstrip a go", ("own", "b", "go", None), ("own", "a", "go", None))
        # Only what the kind has itself.
        self.is_thrown("strip c go", "nodeed")
        self.is_thrown("strip b on", "nodeed")
        self.is_thrown("strip a none", "nodeed")
        told = self.is_changed("strip b go\ntry\nstrip b go\ncatch v\ntell name v\nend", ("own", "b", "go", None))
        self.assertEqual(told[1], ("nodeed",))
        self.assertEqual(numbers(told), (0, 1, 1, 0))

    def test_elders(self):
        self.is_changed("elders d a", ("elders", "d", ("a",)))
        self.is_changed("elders c", ("elders", "c", ()))
        self.is_changed("elders c d b", ("elders", "c", ("d", "b")))
        self.is_changed("elders b\nelders c a b", ("elders", "b", ()), ("elders", "c", ("a", "b")))
        self.is_thrown("elders a a", "ring")
        self.is_thrown("elders a c", "ring")
        self.is_thrown("elders a d b", "ring")
        self.is_thrown("elders c a b", "quarrel")
        told = self.is_changed("elders b d", ("elders", "b", ("d",)))
        self.assertEqual(numbers(told), (0, 1, 1, 0))

    def test_a_ring_comes_ahead_of_a_quarrel(self):
        self.is_thrown("elders b a c", "ring")

    def test_a_quarrel_beneath(self):
        heads = "kind a 0\nkind b 0\nkind c 2 a b\nkind d 1 c"
        # b's order has a behind it then, c's elders have it ahead.
        told = self.faults("elders b a", "quarrel", 1, heads)
        self.assertEqual(numbers(told), (0, 0, 0, 0))
        told = self.faults("elders a b\nelders d b c", "quarrel", 2, heads)
        self.assertEqual(numbers(told), (1, 0, 1, 1))

    def test_numbers_rise_with_each_change(self):
        told = self.told("let n 3\nwhile name n\nelders d\nturn b go b go\nlet n minus name n 1\nend\nstrip a on",
                         deeds(DEEDS))
        self.assertEqual(numbers(told), (1, 4, 4, 3))

    def test_asks_by_the_table_as_it_is_then(self):
        heads = deeds(DEEDS)
        self.tells("""let t new c
            tell ask name t go 0
            strip b go
            tell ask name t go 0
            turn c go a on
            tell ask name t go 0
            strip c go
            turn a go d go
            tell ask name t go 1 0
            elders c d
            tell ask name t go 1 0
            elders c
            try
            tell ask name t go 0
            catch v
            tell name v
            end""", [2, 1, 3, 4, 4, "nodeed"], heads)

    def test_a_deed_is_turned_in_a_loop(self):
        self.tells("""let t new c
            repeat 3
            tell ask name t go 0
            try
            strip b go
            catch v
            turn c go a on
            end
            end""", [2, 1, 3], deeds(DEEDS))

    def test_new_things_by_the_table_as_it_is_then(self):
        told = self.told("do new d\nelders d c\ndo new d\nelders d\ndo new d\nelders c\ndo new c")
        self.assertEqual([thing[1] for thing in told[3]],
                         [(), (("x", None), ("y", None), ("z", None)), (), (("z", None),)])

    def test_things_keep_their_fields(self):
        told = self.told("let t new c\nelders c\nput name t w 1\nbecome name t d")
        self.assertEqual(told[3], (("d", (("x", None), ("y", None), ("z", None), ("w", 1))),))


class TestWhatRuns(TreeCase):
    def test_a_body_stripped_while_it_runs(self):
        heads = deeds("deed a go\nstrip a go\ntell 1\ntry\ndo ask me go 0\ncatch v\ntell name v\nend\ngive 5\nend")
        told = self.tells("let t new a\ntell ask name t go 0\ntry\ndo ask name t go 0\ncatch v\ntell name v\nend",
                          [1, "nodeed", 5, "nodeed"], heads)
        self.assertEqual(told[4][0][4], ())

    def test_a_body_turned_while_it_runs(self):
        heads = deeds("deed a go\nturn a go a on\ntell ask me go 0\ngive 1\nend\ndeed a on\ngive 2\nend")
        self.tells("let t new a\ntell ask name t go 0\ntell ask name t go 0", [2, 1, 2], heads)

    def test_up_of_a_body_that_was_turned(self):
        # The body of a's go runs as b's on: its home is b, and so up goes on behind b.
        heads = deeds("deed a go\ntell 1\ngive up on 0\nend\ndeed a on\ntell 2\nend")
        self.assertEqual(self.told("do ask new b go 0", heads)[0], ("fault", "nodeed", ((0, 1), (1, 2))))
        self.tells("turn b on a go\ndo ask new b on 0", [1, 2], heads)

    def test_a_home_that_is_gone_from_the_order(self):
        heads = deeds("deed b go\ntell up go 0\nelders c a\ntell up go 0\nend\ndeed a go\ngive 7\nend")
        told = self.told("do ask new c go 0", heads)
        self.assertEqual(told[0], ("fault", "nodeed", ((0, 1), (1, 3))))
        self.assertEqual(told[1], (7,))
        # Of a b it stays in the order.
        self.tells("do ask new b go 0", [7, 7], heads)

    def test_become_in_the_midst_of_a_call(self):
        heads = deeds("""deed b go
            tell up go 0
            become me a
            tell ask me go 0
            try
            tell up go 0
            catch v
            tell name v
            end
            become me c
            tell up go 0
            tell ask me on 0
            end
            deed a go
            give 7
            end
            deed c on
            give 8
            end""")
        told = self.tells("do ask new b go 0", [7, 7, "nodeed", 7, 8], heads)
        self.assertEqual(told[3][0][0], "c")

    def test_up_looks_by_the_kind_of_me_as_it_is_then(self):
        heads = """kind a 0
kind b 0
kind c 1 a
kind d 2 a b
deed a go
give up go 0
end
deed b go
give 5
end
deed c on
become me d
give up go 0
end"""
        self.assertEqual(self.told("do ask new c go 0", heads)[0][1], "nodeed")
        self.tells("let t new c\nbecome name t d\ntell ask name t go 0", [5], heads)
        # Home c doesn't stand in d's order.
        self.assertEqual(self.told("do ask new c on 0", heads)[0], ("fault", "nodeed", ((0, 1), (3, 2))))

    def test_elders_changed_between_up_and_up(self):
        heads = """kind a 0
kind b 0
kind c 1 a
deed a go
give 1
end
deed b go
give 2
end
deed c go
tell up go 0
elders c b
tell up go 0
elders c b a
tell up go 0
elders c a b
tell up go 0
end"""
        self.tells("do ask new c go 0", [1, 2, 2, 1], heads)

    def test_me_home_and_names_stay(self):
        heads = deeds("deed a go p\nstrip a go\nelders c\nbecome me d\ntell me\ntell name p\ngive 6\nend")
        self.tells("tell ask new c go 1 4", [("thing", 0), 4, 6], heads)

    def test_changes_behind_a_fault_stay(self):
        heads = deeds("deed a go\nstrip a go\nthrow 1\nend")
        told = self.tells("try\ndo ask new a go 0\ncatch v\ntell name v\nend", [1], heads)
        self.assertEqual(told[4][0][4:], ((), 1))

    def test_stopped_in_the_midst(self):
        heads = deeds("deed a go\nstrip a go\ntell 1\nend")
        plain = program("do ask new a go 0", heads)
        self.assertEqual([numbers(run_trees(plain, limit)) for limit in range(6)],
                         [(0, 0, 0, 0)] * 4 + [(1, 1, 1, 0)] * 2)
