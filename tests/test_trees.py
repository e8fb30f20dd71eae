import unittest

from makers import some_programs
from plain_rows import told_by_rows
from test_errors import REFUSALS
from things import ALIENS
from warmrows.errors import NoLimit, RowError
from warmrows.programs import is_program, table_of
from warmrows.rows import book_of
from warmrows.tables import is_table
from warmrows.texts import read_program
from warmrows.trees import run_trees
from warmrows.values import is_value

KINDS = """kind a 0 x y
kind b 1 a
kind c 2 b a z
kind d 0"""


def program(rows, heads=KINDS):
    """The program of these kinds and deeds whose RUN has these rows."""
    return read_program("\n".join([heads, "run"] + [row.strip() for row in rows.strip().split("\n") if row] + ["end"]))


def deeds(text):
    """KINDS and, behind them, these deeds."""
    return KINDS + "\n" + "\n".join(row.strip() for row in text.strip().split("\n"))


class TreeCase(unittest.TestCase):
    def told(self, rows, heads=KINDS, limit=400):
        told = run_trees(program(rows, heads), limit)
        self.assertEqual(len(told), 5)
        return told

    def tells(self, rows, events, heads=KINDS):
        """A run that gives None, with these events."""
        told = self.told(rows, heads)
        self.assertEqual(told[:2], (("gave", None), tuple(events)), rows)
        return told

    def faults(self, rows, word, statement, heads=KINDS):
        """A run that ends with a fault in RUN's frame alone."""
        told = self.told(rows, heads)
        self.assertEqual(told[0], ("fault", word, ((0, statement),)), rows)
        return told

    def value(self, expression, value, heads=KINDS):
        self.assertEqual(self.told("give " + expression, heads)[0], ("gave", value), expression)

    def caught(self, expression, word, heads=KINDS):
        """What an expression throws, by its fault and by a catch."""
        self.faults("do " + expression, word, 1, heads)
        self.tells("try\ndo " + expression + "\ncatch w\ntell name w\nend", [word], heads)


class TestLimits(TreeCase):
    def test_what_is_no_limit(self):
        plain = program("tell 1")
        for limit in [thing for thing in ALIENS] + [None, 401, 402, 10 ** 30, "1", "a", (), (1,), ((),)]:
            for taken in (NoLimit, RowError, ValueError):
                with self.assertRaises(taken):
                    run_trees(plain, limit)
            try:
                run_trees(plain, limit)
            except RowError as error:
                self.assertEqual([one for one in REFUSALS if isinstance(error, one)], [NoLimit])
        for limit in (0, 1, 399, 400):
            self.assertEqual(run_trees(plain, limit)[2], min(limit, 2))

    def test_limit_nought(self):
        for rows in ("", "tell 1", "throw 1", "let t new a"):
            plain = program(rows)
            self.assertEqual(run_trees(plain, 0), (None, (), 0, (), table_of(plain)))

    def test_each_limit(self):
        rows = """let t new a
            tell ask name t go 1 5
            put name t x 1
            strip a go
            drop name t y
            tell 2
            throw 9"""
        plain = program(rows, deeds("deed a go p\ntell name p\ngive 7\nend"))
        table = table_of(plain)
        stripped = (("a", (), ("a",), ("x", "y"), (), 1), table[1][:5] + (1,), table[2][:5] + (1,), table[3])
        first, put, dropped = (("x", None), ("y", None)), (("x", 1), ("y", None)), (("x", 1),)
        # Behind each step: events, the fields of the one thing, the table.
        stops = [
            ((), None, table), ((), None, table), ((), first, table), ((), first, table), ((), first, table),
            ((5,), first, table), ((5, 7), first, table), ((5, 7), put, table), ((5, 7), put, stripped),
            ((5, 7), dropped, stripped), ((5, 7, 2), dropped, stripped),
        ]
        for limit, (events, fields, then) in enumerate(stops):
            things = () if fields is None else (("a", fields),)
            self.assertEqual(run_trees(plain, limit), (None, events, limit, things, then), limit)
        for limit in (11, 12, 13, 400):
            self.assertEqual(run_trees(plain, limit),
                             (("fault", 9, ((0, 7),)), (5, 7, 2), 11, (("a", dropped),), stripped))

    def steps(self, rows, steps, heads=KINDS):
        """How many steps a run has; up to there it stops at each limit, and beyond it tells the same."""
        plain = program(rows, heads)
        told = run_trees(plain, 400)
        self.assertIsNotNone(told[0])
        self.assertEqual(told[2], steps, rows)
        for limit in range(steps):
            stopped = run_trees(plain, limit)
            self.assertEqual((stopped[0], stopped[2]), (None, limit), rows)
            self.assertEqual(stopped[1], told[1][:len(stopped[1])])
        for limit in (steps, steps + 1, steps + 2):
            self.assertEqual(run_trees(plain, limit), told)

    def test_what_counts_a_step(self):
        self.steps("", 1)
        self.steps("tell 1", 2)
        self.steps("give 1\ntell 2", 2)
        self.steps("throw 1\ntell 2", 2)
        self.steps("if 1\ntell 1\nelse\ntell 2\ntell 3\nend", 3)
        self.steps("if 0\ntell 1\nelse\ntell 2\ntell 3\nend", 4)
        self.steps("try\ntell 1\ncatch v\ntell 2\nend", 3)
        self.steps("try\nthrow 1\ntell 1\ncatch v\ntell 2\nend\ntell 3", 5)
        self.steps("try\ncatch v\nend", 2)

    def test_rounds(self):
        self.steps("while 0\ntell 1\nend", 2)
        self.steps("let n 0\nwhile less name n 2\ntell 1\nlet n plus name n 1\nend", 9)
        self.steps("let n 0\nwhile less name n 2\nlet n plus name n 1\nend", 7)
        self.steps("repeat 0\ntell 1\nend", 2)
        self.steps("repeat 3\nend", 5)
        self.steps("repeat 2\ntell 1\ntell 2\nend\ntell 3", 9)
        self.steps("repeat 2\nrepeat 2\ntell 1\nend\nend", 14)
        # A round that is left comes to no end.
        self.steps("repeat 2\ngive 1\nend", 3)
        self.steps("while 1\nthrow 1\nend", 3)
        self.steps("try\nwhile 1\nthrow 1\nend\ncatch v\nend", 4)

    def test_bodies(self):
        heads = deeds("deed a go\nend\ndeed a on\ntell 1\ndo ask me go 0\nend")
        self.steps("do ask new a go 0", 3, heads)
        self.steps("do ask new a on 0", 6, heads)
        self.steps("tell plus ask new a go 0 ask new a on 0", 7, heads)
        self.steps("do ask new a go 1 1", 2, heads)
        self.steps("do ask 1 go 0", 2, heads)

    def test_runs_that_never_end(self):
        for limit in (0, 1, 2, 3, 57, 399, 400):
            told = self.told("while 1\ntell 1\nend", limit=limit)
            self.assertEqual(told[:3], (None, (1,) * max(0, (limit - 1) // 2), limit))
            self.assertEqual(self.told("while 1\nend", limit=limit)[:3], (None, (), limit))
            self.assertEqual(self.told("repeat 999999999\nend", limit=limit)[:3], (None, (), limit))


class TestValues(TreeCase):
    def test_plus_and_minus(self):
        self.value("plus 1 2", 3)
        self.value("minus 1 2", -1)
        self.value("plus 999999998 1", 999999999)
        self.value("minus minus 0 999999998 1", -999999999)
        self.value("minus 999999999 999999999", 0)
        self.caught("plus 999999999 1", "great")
        self.caught("minus minus 0 999999999 1", "great")
        self.caught("plus minus 0 999999999 minus 0 1", "great")
        self.caught("minus 1 minus 0 999999999", "great")

    def test_what_is_no_number(self):
        for word in ("plus", "minus", "less"):
            for other in ("none", "new a", "name v"):
                self.caught(f"{word} {other} 1", "kind")
                self.caught(f"{word} 1 {other}", "kind")
            self.faults(f"try\ndo plus 1 none\ncatch v\ndo {word} name v 1\nend", "kind", 3)
            self.faults(f"try\ndo plus 1 none\ncatch v\ndo {word} 1 name v\nend", "kind", 3)

    def test_both_parts_are_worked_out_ahead_of_the_fault(self):
        heads = deeds("deed a go p\ntell name p\ngive name p\nend")
        for word in ("plus", "minus", "less"):
            for first, second in (("none", "1"), ("1", "none"), ("999999999", "none")):
                rows = f"let t new a\ndo {word} ask name t go 1 {first} ask name t go 1 {second}"
                told = self.told(rows, heads)
                self.assertEqual(told[0], ("fault", "kind", ((0, 2),)))
                self.assertEqual([str(event or "none").lower() for event in told[1]], [first, second])

    def test_less(self):
        self.value("less 1 2", 1)
        self.value("less 2 2", 0)
        self.value("less 3 2", 0)
        self.value("less minus 0 5 minus 0 4", 1)

    def test_alike(self):
        for expression, value in (
                ("alike 1 1", 1), ("alike 1 2", 0), ("alike none none", 1), ("alike 0 none", 0),
                ("alike new a new a", 0), ("alike new a 0", 0), ("alike name v none", 1)):
            self.value(expression, value)
        self.tells("""let t new a
            let u name t
            tell alike name t name u
            tell alike name t new a
            tell alike name t 0
            try
            do plus none 1
            catch v
            tell alike name v name v
            tell alike name v none
            tell alike name v name t
            try
            do plus 1 none
            catch w
            tell alike name v name w
            end
            end""", [1, 0, 0, 1, 0, 0, 1])

    def test_words_of_unlike_faults_are_not_alike(self):
        self.tells("""try
            do plus none 1
            catch v
            end
            try
            do get none x
            catch w
            end
            tell alike name v name w
            tell name v
            tell name w""", [0, "kind", "nothing"])

    def test_or(self):
        heads = deeds("deed a go p\ntell name p\ngive name p\nend")
        self.tells("""let t new a
            tell or ask name t go 1 3 ask name t go 1 4
            tell or ask name t go 1 0 ask name t go 1 5
            tell or ask name t go 1 none ask name t go 1 0
            tell or ask name t go 1 0 ask name t go 1 none
            tell or name t get none x
            tell or or none 0 6""", [3, 3, 0, 5, 5, None, 0, 0, 0, None, None, ("thing", 0), 6], heads)
        self.caught("or 0 get none x", "nothing")
        self.caught("or get none x 1", "nothing")

    def test_yes_and_no(self):
        for value, yes in (("0", 0), ("none", 0), ("1", 1), ("minus 0 1", 1), ("new a", 1), ("name v", 0),
                           ("999999999", 1)):
            self.tells(f"if {value}\ntell 1\nelse\ntell 0\nend", [yes])
            self.tells(f"let v {value}\nwhile name v\ntell 1\nlet v 0\nend", [1] * yes)
        self.tells("try\ndo get 0 x\ncatch v\nif name v\ntell 1\nelse\ntell 0\nend\nend", [1])

    def test_numbers_and_none(self):
        self.value("0", 0)
        self.value("999999999", 999999999)
        self.value("none", None)
        self.value("me", None)
        self.value("name me", None)


class TestThings(TreeCase):
    def things(self, rows, *things, heads=KINDS):
        self.assertEqual(self.told(rows, heads)[3], things, rows)

    def test_new(self):
        self.things("do new a", ("a", (("x", None), ("y", None))))
        self.things("do new b", ("b", (("x", None), ("y", None))))
        self.things("do new c\ndo new d", ("c", (("x", None), ("y", None), ("z", None))), ("d", ()))
        self.value("new a", ("thing", 0))
        self.tells("tell new a\ntell new d\ntell new a", [("thing", 0), ("thing", 1), ("thing", 2)])
        self.things("do alike new c new a", ("c", (("x", None), ("y", None), ("z", None))),
                    ("a", (("x", None), ("y", None))))

    def test_fields_from_the_last_kind_to_the_first(self):
        heads = "kind a 0 x y\nkind b 0 z x\nkind c 2 a b w z"
        self.things("do new c", ("c", (("z", None), ("x", None), ("y", None), ("w", None))), heads=heads)

    def test_get(self):
        self.tells("let t new a\ntell get name t x\nput name t x 5\ntell get name t x\ntell get name t y",
                   [None, 5, None])
        self.caught("get new a z", "nofield")
        self.caught("get new d x", "nofield")
        for wrong in ("none", "0", "7", "me", "name v"):
            self.caught("get " + wrong + " x", "nothing")
        self.faults("try\nthrow 5\ncatch v\ndo get name v x\nend", "nothing", 3)
        self.faults("try\ndo get 0 x\ncatch v\ndo get name v x\nend", "nothing", 3)

    def test_put(self):
        self.things("let t new a\nput name t y 1\nput name t z 2\nput name t x 3\nput name t w none",
                    ("a", (("x", 3), ("y", 1), ("z", 2), ("w", None))))
        self.things("let t new d\nput name t x name t\nput name t x 2\nput name t y 3\nput name t x 4",
                    ("d", (("x", 4), ("y", 3))))
        for wrong in ("none", "0", "me", "name v"):
            told = self.faults(f"put {wrong} x new d", "nothing", 1)
            self.assertEqual(told[3], (("d", ()),))
        self.faults("put none x plus none 1", "kind", 1)
        self.faults("put plus none 1 x get none x", "kind", 1)

    def test_the_thing_is_worked_out_ahead_of_the_value(self):
        heads = deeds("deed a go p\ntell name p\ngive me\nend")
        told = self.told("let t new a\nput ask name t go 1 1 x ask name t go 1 2", heads)
        self.assertEqual(told[1], (1, 2))
        self.assertEqual(told[3], (("a", (("x", ("thing", 0)), ("y", None))),))
        self.things("put new a x new d", ("a", (("x", ("thing", 1)), ("y", None))), ("d", ()))

    def test_drop(self):
        self.things("let t new c\ndrop name t y", ("c", (("x", None), ("z", None))))
        self.things("let t new a\nput name t x 1\ndrop name t x\nput name t x 2\ndrop name t y",
                    ("a", (("x", 2),)))
        self.things("let t new a\ndrop name t x\nput name t x 2", ("a", (("y", None), ("x", 2))))
        self.faults("drop new a z", "nofield", 1)
        self.faults("let t new a\ndrop name t x\ndrop name t x", "nofield", 3)
        self.faults("let t new a\ndrop name t x\ntell get name t x", "nofield", 3)
        for wrong in ("none", "0", "me", "name v"):
            self.faults(f"drop {wrong} x", "nothing", 1)

    def test_become(self):
        self.things("let t new a\nput name t x 1\nbecome name t d", ("d", (("x", 1), ("y", None))))
        self.things("become new d c", ("c", ()))
        self.things("let t new a\nbecome name t b\nbecome name t a", ("a", (("x", None), ("y", None))))
        for wrong in ("none", "0", "me", "name v"):
            self.faults(f"become {wrong} b", "nothing", 1)

    def test_what_was_done_ahead_of_a_fault_stays(self):
        heads = deeds("deed a go\ntell 1\nput me z 7\nstrip a go\ngive none\nend")
        told = self.told("put new d x 1\ndo plus ask new a go 0 1", heads)
        self.assertEqual(told[0], ("fault", "kind", ((0, 2),)))
        self.assertEqual(told[1], (1,))
        self.assertEqual(told[3], (("d", (("x", 1),)), ("a", (("x", None), ("y", None), ("z", 7)))))
        self.assertEqual(told[4][0], ("a", (), ("a",), ("x", "y"), (), 1))

    def test_names_are_of_one_thing(self):
        self.tells("let t new a\nlet u name t\nput name u x 4\ntell get name t x", [4])


class TestAsks(TreeCase):
    def test_along_the_order(self):
        heads = """kind a 0
kind b 1 a
kind c 1 a
kind d 2 b c
deed a go
give 1
end
deed c go
give 3
end
deed b on
give 2
end
deed a on
give 10
end"""
        self.tells("tell ask new a go 0\ntell ask new b go 0\ntell ask new c go 0\ntell ask new d go 0",
                   [1, 1, 3, 3], heads)
        self.tells("tell ask new a on 0\ntell ask new b on 0\ntell ask new c on 0\ntell ask new d on 0",
                   [10, 2, 10, 2], heads)
        self.caught("ask new a none 0", "nodeed", heads)

    def test_up_from_home_to_home(self):
        heads = """kind a 0
kind b 1 a
kind c 1 a
kind d 2 b c
deed a go
tell 1
end
deed b go
tell 2
do up go 0
end
deed c go
tell 3
do up go 0
end
deed d go
tell 4
do up go 0
end
deed b on
do up go 0
end"""
        self.tells("do ask new d go 0", [4, 2, 3, 1], heads)
        self.tells("do ask new b go 0", [2, 1], heads)
        self.tells("do ask new c go 0", [3, 1], heads)
        # Behind b of d stands c, of b a.
        self.tells("do ask new d on 0\ndo ask new b on 0", [3, 1, 1], heads)

    def test_up_finds_nothing(self):
        heads = deeds("deed a go\ndo up go 0\nend\ndeed b on\ndo up on 0\nend")
        self.assertEqual(self.told("do ask new c go 0", heads)[0], ("fault", "nodeed", ((0, 1), (1, 1))))
        self.assertEqual(self.told("do ask new c on 0", heads)[0], ("fault", "nodeed", ((0, 1), (2, 1))))

    def test_up_in_run(self):
        heads = deeds("deed a go\nend")
        self.caught("up go 0", "nothing", heads)
        told = self.told("do up go 2 new a new d", heads)
        self.assertEqual(told[0], ("fault", "nothing", ((0, 1),)))
        self.assertEqual([thing[0] for thing in told[3]], ["a", "d"])
        self.faults("let me new a\ndo up go 0", "nothing", 2, heads)

    def test_me_params_and_other_names(self):
        heads = deeds("""deed a go p q
            tell me
            tell name p
            tell name q
            tell name t
            tell name me
            let t 9
            let p 8
            end""")
        self.tells("let t new d\nlet p 7\ndo ask new c go 2 1 new d\ntell name t\ntell name p\n"
                   "do ask new a go 2 none 2",
                   [("thing", 1), 1, ("thing", 2), None, None, ("thing", 0), 7, ("thing", 3), None, 2, None, None],
                   heads)

    def test_a_param_called_me(self):
        heads = deeds("deed a go me\ntell me\ntell name me\nlet me 6\ntell me\ntell name me\nend")
        self.tells("do ask new a go 1 5", [("thing", 0), 5, ("thing", 0), 6], heads)
        self.tells("let me 1\ntell me\ntell name me", [None, 1])

    def test_params_as_handed_in(self):
        heads = deeds("deed a go p q r\ngive minus name p minus name q name r\nend")
        self.value("ask new a go 3 100 20 3", 83, heads)

    def test_args_are_worked_out_from_the_left_ahead_of_faults(self):
        heads = deeds("deed a go p\ntell name p\ngive name p\nend\ndeed d on p\nend")
        for asked, word in (("none", "nothing"), ("ask name t go 1 5", "nothing"), ("new b", "nodeed"),
                            ("new a", "nodeed")):
            rows = f"let t new a\ndo ask {asked} on 2 ask name t go 1 1 ask name t go 1 2"
            told = self.told(rows, heads)
            self.assertEqual(told[0], ("fault", word, ((0, 2),)))
            self.assertEqual(told[1][-2:], (1, 2))
        told = self.told("let t new a\ndo ask ask name t go 1 name t go 2 ask name t go 1 1 ask name t go 1 2", heads)
        self.assertEqual(told[:2], (("fault", "many", ((0, 2),)), (("thing", 0), 1, 2)))
        self.assertEqual(self.told("do ask none go 1 plus 1 none", heads)[0], ("fault", "kind", ((0, 1),)))

    def test_faults_in_their_order(self):
        heads = deeds("deed a go p\nend\ndeed a deep n\nif name n\ndo ask me deep 1 minus name n 1\nelse\n"
                      "do ask none go 0\nend\nend\ndeed a more n\nif name n\ndo ask me more 1 minus name n 1\nelse\n"
                      "do ask me none 0\nend\nend\ndeed a most n\nif name n\ndo ask me most 1 minus name n 1\nelse\n"
                      "do ask me go 0\nend\nend\ndeed a all n\nif name n\ndo ask me all 1 minus name n 1\nelse\n"
                      "do ask me go 1 1\nend\nend")
        # Ten more below the first, so that there are twelve frames with RUN's.
        for deed, word in (("deep", "nothing"), ("more", "nodeed"), ("most", "many"), ("all", "deep")):
            told = self.told(f"do ask new a {deed} 1 10", heads)
            self.assertEqual(told[0][1], word)
            self.assertEqual(len(told[0][2]), 12)
            self.assertEqual({point[1] for point in told[0][2][1:11]}, {2})
            self.assertEqual(told[0][2][11][1], 3)
        for deed, word in (("deep", "nothing"), ("more", "nodeed"), ("most", "many")):
            self.assertEqual(self.told(f"do ask new a {deed} 1 9", heads)[0][1], word)
        self.assertEqual(self.told("do ask new a all 1 9", heads)[0], ("gave", None))
        for args in ("0", "2 1 2", "3 1 2 3"):
            self.caught("ask new a go " + args, "many", heads)
        for args in ("0", "1 1", "2 1 2"):
            self.caught("ask new d go " + args, "nodeed", heads)

    def test_twelve_frames_and_a_thirteenth(self):
        heads = deeds("deed a go n\ntell name n\ndo ask me go 1 plus name n 1\nend")
        told = self.told("do ask new a go 1 1", heads)
        self.assertEqual(told[0], ("fault", "deep", ((0, 1),) + ((1, 2),) * 11))
        self.assertEqual(told[1], tuple(range(1, 12)))
        heads = deeds("deed a go n\nif minus name n 1\ngive plus 1 ask me go 1 minus name n 1\nelse\ngive 1\nend\nend")
        self.value("ask new a go 1 11", 11, heads)
        self.assertEqual(self.told("give ask new a go 1 12", heads)[0][1], "deep")
        # Frames that ended count no more.
        self.value("plus ask new a go 1 11 ask new a go 1 11", 22, heads)
        self.tells("try\ndo ask new a go 1 12\ncatch v\ntell name v\ntell ask new a go 1 11\nend", ["deep", 11], heads)

    def test_up_counts_frames_and_args_as_ask(self):
        heads = deeds("deed b go p\ngive up go 1 plus name p 1\nend\ndeed a go p\ngive name p\nend\n"
                      "deed b on\ngive up go 0\nend\ndeed a on n\nif name n\ngive ask me on 1 minus name n 1\nelse\n"
                      "give ask new c go 1 1\nend\nend")
        self.value("ask new b go 1 5", 6, heads)
        self.assertEqual(self.told("do ask new b on 0", heads)[0], ("fault", "many", ((0, 1), (3, 1))))
        self.value("ask new a on 1 8", 2, heads)
        told = self.told("give ask new a on 1 9", heads)
        self.assertEqual(told[0][1:], ("deep", ((0, 1),) + ((4, 2),) * 9 + ((4, 3), (1, 1))))

    def test_what_a_body_gives(self):
        heads = deeds("deed a go p\nif name p\ngive name p\nelse\nend\ntell 3\nend\ndeed a on\nend\ndeed a none\n"
                      "give none\nend")
        self.tells("tell ask new a go 1 7\ntell ask new a go 1 0\ntell ask new a on 0\ntell ask new a none 0",
                   [7, 3, None, None, None], heads)
        self.assertEqual(self.told("give new a")[0], ("gave", ("thing", 0)))
        self.assertEqual(self.told("give none\ntell 1")[:2], (("gave", None), ()))
        self.assertEqual(self.told("")[:2], (("gave", None), ()))


class TestStatements(TreeCase):
    def test_let_tell_and_do(self):
        self.tells("let v 1\nlet w name v\nlet v 2\ntell name v\ntell name w\ndo name v\ntell none", [2, 1, None])

    def test_if(self):
        for value, word in (("0", 2), ("none", 2), ("1", 1), ("new a", 1), ("minus 0 1", 1)):
            self.tells(f"if {value}\ntell 1\nelse\ntell 2\nend\ntell 3", [word, 3])

    def test_while(self):
        self.tells("let n 3\nwhile name n\ntell name n\nlet n minus name n 1\nend", [3, 2, 1])
        self.tells("let n 1\nwhile name n\nlet n none\ntell 5\nend", [5])
        self.tells("while none\ntell 1\nend\nwhile 0\ntell 2\nend", [])
        self.tells("let t new a\nlet n name t\nwhile name n\ntell name n\nlet n get name n x\nend", [("thing", 0)])

    def test_repeat(self):
        for number, rounds in (("0", 0), ("minus 0 1", 0), ("minus 0 999999999", 0), ("1", 1), ("2", 2), ("5", 5)):
            self.tells(f"repeat {number}\ntell 4\nend", [4] * rounds)
        for wrong in ("none", "new a", "me", "name v"):
            self.faults(f"repeat {wrong}\ntell 1\nend", "kind", 1)
        self.faults("try\ndo get 0 x\ncatch v\nrepeat name v\nend\nend", "kind", 3)
        # The number is worked out once.
        self.tells("let n 3\nrepeat name n\nlet n plus name n 1\nend\ntell name n", [6])
        self.tells("repeat 2\nrepeat 3\ntell 1\nend\ntell 2\nend", [1, 1, 1, 2, 1, 1, 1, 2])

    def test_give_out_of_loops_and_tries(self):
        for rows in ("while 1\ngive 5\nend", "repeat 3\ngive 5\nend", "try\ngive 5\ncatch v\ntell 1\nend",
                     "try\nthrow 1\ncatch v\ngive 5\nend", "if 1\ngive 5\nelse\nend", "if 0\nelse\ngive 5\nend",
                     "repeat 2\nwhile 1\ngive 5\nend\nend", "try\nrepeat 2\ngive 5\nend\ncatch v\nend"):
            self.assertEqual(self.told(rows + "\ntell 2")[:2], (("gave", 5), ()), rows)
            heads = deeds("deed a go\n" + rows + "\ntell 3\nend")
            self.tells("tell ask new a go 0\ntell 2", [5, 2], heads)

    def test_throw(self):
        for value, told in (("5", 5), ("none", None), ("0", 0), ("new a", ("thing", 0)), ("minus 0 4", -4)):
            self.assertEqual(self.told(f"throw {value}\ntell 1")[:2], (("fault", told, ((0, 1),)), ()))
            self.tells(f"try\nthrow {value}\ntell 1\ncatch v\ntell 2\ntell name v\nend\ntell 3", [2, told, 3])
            heads = deeds(f"deed a go\nthrow {value}\nend")
            self.tells("try\ntell 0\ntell ask new d none 0\ncatch v\ntell name v\nend", [0, "nodeed"], heads)
        self.faults("throw plus 1 none", "kind", 1)

    def test_try_without_a_throw(self):
        self.tells("let v 4\ntry\ntell 1\ncatch v\ntell 2\nend\ntell name v", [1, 4])
        self.tells("try\ncatch v\ntell 2\nend", [])

    def test_try_over_several_frames(self):
        heads = deeds("""deed a go p
            tell 1
            do ask me on 1 name p
            tell 2
            end
            deed a on p
            tell 3
            throw name p
            end
            deed a deed p
            try
            do ask me go 1 name p
            catch v
            tell name v
            throw plus name v 1
            end
            end""")
        self.tells("try\ndo ask new a go 1 7\ntell 8\ncatch v\ntell name v\nend\ntell 9", [1, 3, 7, 9], heads)
        self.tells("try\ndo ask new a deed 1 7\ncatch v\ntell name v\nend", [1, 3, 7, 8], heads)
        self.assertEqual(self.told("do ask new a go 1 7", heads)[0], ("fault", 7, ((0, 1), (1, 2), (2, 2))))
        self.assertEqual(self.told("do ask new a deed 1 7", heads)[0], ("fault", 8, ((0, 1), (3, 4))))

    def test_tries_within_one_another(self):
        self.tells("try\ntry\nthrow 1\ncatch v\ntell name v\nend\nthrow 2\ncatch v\ntell name v\nend", [1, 2])
        self.tells("try\ntry\nthrow 1\ncatch v\nthrow name v\nend\ncatch w\ntell name w\nend", [1])
        self.tells("try\nthrow 1\ncatch v\ntry\nthrow 2\ncatch v\ntell name v\nend\ntell name v\nend", [2, 2])
        self.faults("try\nthrow 1\ncatch v\nthrow 2\nend", 2, 3)
        self.tells("repeat 2\ntry\nthrow 1\ncatch v\ntell name v\nend\nend", [1, 1])
        self.tells("try\nrepeat 2\nthrow 1\nend\ncatch v\ntell name v\nend", [1])
        self.tells("let n 2\nwhile name n\nlet n minus name n 1\ntry\ndo get 0 x\ncatch v\ntell name v\nend\nend",
                   ["nothing", "nothing"])

    def test_the_frame_that_catches_goes_on_with_its_own(self):
        heads = deeds("deed a go p\nlet q 5\ntry\ndo ask new d on 1 3\ncatch r\ntell me\ntell name p\ntell name q\n"
                      "tell name r\nend\nend\ndeed d on p\nlet q 6\nthrow name p\nend")
        self.tells("do ask new a go 1 2", [("thing", 0), 2, 5, 3], heads)


class TestEndings(TreeCase):
    def ends(self, rows, ending, heads=KINDS):
        self.assertEqual(self.told(rows, heads)[0], ending, rows)

    def test_gave(self):
        self.ends("", ("gave", None))
        self.ends("tell 1", ("gave", None))
        self.ends("give none", ("gave", None))
        self.ends("give 0", ("gave", 0))
        self.ends("try\ndo get 0 x\ncatch v\ngive name v\nend", ("gave", "nothing"))

    def test_statements_are_numbered_as_written(self):
        rows = """tell 1
            if name n
            tell 2
            else
            tell 3
            try
            tell 4
            catch v
            tell 5
            end
            tell 6
            end
            repeat 1
            while 0
            tell 7
            end
            throw 1
            end"""
        self.faults(rows, 1, 12)
        for number, row in ((1, "tell 1"), (4, "tell 3"), (6, "tell 4"), (8, "tell 6"), (10, "while 0")):
            self.faults(rows.replace(row + "\n", row.split(" ")[0] + " get none x\n"), *{
                6: (1, 12)}.get(number, ("nothing", number)))
        self.faults(rows.replace("tell 4", "throw 2").replace("tell 5", "do get 1 x"), "nothing", 7)
        self.faults(rows.replace("if name n", "if 1").replace("tell 2", "do get 1 x"), "nothing", 3)
        self.faults(rows.replace("if name n", "if get 1 x"), "nothing", 2)
        self.faults(rows.replace("repeat 1", "repeat none"), "kind", 9)
        self.faults(rows.replace("while 0", "while 1").replace("tell 7", "do get 1 x"), "nothing", 11)

    def test_the_innermost_statement_at_work(self):
        self.faults("let n 1\nwhile plus 1 name n\nlet n none\nend", "kind", 2)
        self.faults("let n 1\nwhile plus 1 name n\nif 1\nlet n none\nelse\nend\nend", "kind", 2)
        self.faults("let n 1\nwhile 1\nwhile less name n 2\nlet n plus name n 1\nend\nlet n none\nend", "kind", 3)
        self.faults("try\nthrow 1\ncatch v\nend\ndo get 1 x", "nothing", 3)
        self.faults("if 1\ntell 1\nelse\ntell 2\nend\ndo get 1 x", "nothing", 4)

    def test_a_loop_in_a_deed_is_at_work_again_behind_its_rounds(self):
        heads = deeds("deed a go\nlet n 1\nwhile plus 1 name n\ntell 1\nlet n none\nend\nend")
        self.ends("tell 0\ntell 0\ntell 0\ndo ask new a go 0", ("fault", "kind", ((0, 4), (1, 2))), heads)

    def test_points_of_each_frame(self):
        heads = deeds("""deed a go
            tell 1
            if 1
            do ask me on 0
            else
            end
            end
            deed a on
            repeat 2
            do ask me deed 0
            end
            end
            deed a deed
            tell get me z
            end""")
        self.ends("tell 1\ntry\ncatch v\ndo 1\nend\ntell ask new a go 0",
                  ("fault", "nofield", ((0, 4), (1, 3), (2, 2), (3, 1))), heads)

    def test_thrown_anew(self):
        heads = deeds("""deed a go
            try
            do ask me on 0
            catch v
            throw name v
            end
            end
            deed a on
            throw 5
            end""")
        self.ends("do ask new a go 0", ("fault", 5, ((0, 1), (1, 3))), heads)
        self.ends("try\ndo ask new a go 0\ncatch v\ntell 1\nthrow name v\nend", ("fault", 5, ((0, 4),)), heads)

    def test_points_behind_a_catch(self):
        heads = deeds("deed a go\nthrow 5\nend\ndeed a on\ntry\ndo ask me go 0\ncatch v\nend\ndo get 1 x\nend")
        self.ends("do ask new a on 0", ("fault", "nothing", ((0, 1), (2, 3))), heads)

    def test_fault_in_a_part_behind_an_ask(self):
        heads = deeds("deed a go\ntell 1\ntell 2\ntell 3\ngive none\nend")
        self.ends("tell 1\ndo plus ask new a go 0 1", ("fault", "kind", ((0, 2),)), heads)


class TestManyPrograms(unittest.TestCase):
    def test_trees_and_rows_tell_the_same_at_each_stop(self):
        ends = {}
        for one in some_programs("trees", 250):
            book = book_of(one)
            whole = run_trees(one, 400)
            ends[whole[0] and whole[0][0]] = ends.get(whole[0] and whole[0][0], 0) + 1
            for limit in list(range(min(whole[2], 60) + 3)) + [400]:
                told = run_trees(one, limit)
                self.assertEqual(told, told_by_rows(book, limit), (one, limit))
                self.assertEqual(told[2], min(limit, whole[2]))
                if limit >= whole[2] and whole[0] is not None:
                    self.assertEqual(told, whole)
                else:
                    self.assertIsNone(told[0])
            self.is_well_told(one, whole)
        self.assertGreater(min(ends.values()), 3)
        self.assertEqual(set(ends), {None, "gave", "fault"})

    def is_well_told(self, one, told):
        ending, events, steps, things, table = told
        self.assertTrue(is_table(table))
        self.assertEqual(run_trees(one, 400), told)
        for value in events + tuple(value for _, fields in things for _, value in fields):
            self.assertTrue(is_value(value), value)
        if ending is not None:
            self.assertTrue(is_value(ending[1]))
            self.assertLessEqual(len(ending[2]) if ending[0] == "fault" else 0, 12)

    def test_programs_somewhat_beyond_the_bounds(self):
        deep = 1
        for number in range(6):
            deep = ("plus", deep, ("or", 0, number))
        tries = ("repeat", 2, (("repeat", 3, (("try", (("throw", 4),), "v", (("tell", ("name", "v")),)),)),))
        four = ("tell", ("ask", ("new", "a"), "go", (1, 2, 3, deep)))
        many = tuple(("let", "v" + letter, 1000000000) for letter in "abcdefghijklmnopqrstuvwxyz")
        deeds = (("a", "go", ("p", "q", "r", "s"), (("give", ("name", "s")),)),)
        deeds += tuple(("a", letter, (), ()) for letter in "bcdefghij")
        run = (tries, four) + many + (("tell", ("minus", ("name", "va"), 1)),)
        one = ((("a", (), ("x", "y", "z", "w")),), deeds, run)
        self.assertFalse(is_program(one))
        told = run_trees(one, 400)
        self.assertEqual(told[:2], (("gave", None), (4,) * 6 + (16, 999999999)))
        for limit in range(told[2] + 1):
            self.assertEqual(run_trees(one, limit), told_by_rows(book_of(one), limit))
