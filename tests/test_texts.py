import itertools
import random
import unittest

from letterall.errors import NoClaim, NoProgram, NoTalk, NoText
from letterall.texts import read, read_claim, read_program, read_talk, show
from tests.samples import some_claim, some_pattern, some_program, some_whole_talk, some_world

WRITTEN = [
    (0, "0"), (7, "7"), (-7, "-7"), (10, "10"), (-120, "-120"), (10 ** 59, "1" + "0" * 59), (-10 ** 59, "-1" + "0" * 59),
    (None, "none"), (True, "yes"), (False, "no"), ("a", "a"), ("say", "say"), ("nones", "nones"), ("z" * 80, "z" * 80),
    ((), "()"), ((1,), "(1)"), ((1, 2), "(1 2)"), (((),), "(())"), (((), ()), "(() ())"), (((), 1), "(() 1)"),
    ((1, ()), "(1 ())"), ((((1,), 2), (3, (4,))), "(((1) 2) (3 (4)))"),
    (("do", 0, (1, -1), None, True, False), "(do 0 (1 -1) none yes no)"), ((((), (((),),)),), "((() ((()))))")]

NO_TEXTS = [
    "", " ", "  ", "1 ", " 1", "1  2", "1 2", "a b", "() ()", "(", ")", "((", "))", ")(", "(()", "())", "()()", "(1", "1)",
    "( )", "(1 )", "( 1)", "(1  2)", "(1 2) ", " (1 2)", "(1)(2)", "(1 (2)3)", "1(2)", "(1)2", "a(1)", "(a)b", "(1,2)",
    "[1]", "1.0", "1.", ".5", "1e3", "0x1", "1_000", "00", "01", "-01", "-0", "-00", "- 1", "--1", "-", "+1", "1-", "1-2",
    "A", "None", "True", "aB", "a1", "1a", "a-b", "a_b", "-a", "'a'", '"a"', "a\n", "\na", "1\n", "(1\n2)", "(1\t2)", "\t",
    "1" * 61, "-" + "1" * 61, "(" + "9" * 61 + ")", "(1 2", "(1 2))", "((1 2)", "(1 . 2)", "a.b", "(a, b)", "no ", "yes.",
    "(none yes  no)", "( (1))", "((1) )", "(1)) ((2)", ")1(", "())(()"]


def deep(levels, within=""):
    return "(" * levels + within + ")" * levels


class Texts(unittest.TestCase):
    def no_text(self, thing):
        with self.subTest(thing=thing):
            with self.assertRaises(NoText):
                read(thing)


class Written(Texts):
    def test_told_out(self):
        for thing, text in WRITTEN:
            with self.subTest(text=text):
                self.assertEqual(show(thing), text)
                found = read(text)
                self.assertEqual(found, thing)
                self.assertIs(type(found), type(thing))

    def test_truths_and_numbers_are_kept_apart(self):
        found = read("(1 yes 0 no)")
        self.assertEqual([type(each) for each in found], [int, bool, int, bool])
        self.assertEqual(show((1, True, 0, False)), "(1 yes 0 no)")

    def test_long_numbers_are_written(self):
        self.assertEqual(show(10 ** 299), "1" + "0" * 299)
        self.assertEqual(show((-10 ** 299,)), "(-1" + "0" * 299 + ")")

    def test_deep_ones(self):
        thing = ()
        for level in range(1, 31):
            self.assertEqual(read(deep(level)), thing)
            self.assertEqual(show(thing), deep(level))
            thing = (thing,)
        self.assertEqual(read(deep(30, "7"))[0][0], read(deep(28, "7")))
        self.assertEqual(read("(" + deep(29) + " " + deep(29, "1 2") + ")"), (read(deep(29)), read(deep(29, "1 2"))))

    def test_things_by_chance(self):
        chance = random.Random(56)

        def some_thing(depth):
            if depth == 0 or chance.random() < 0.4:
                word = "".join(chance.choice("abcxyz") for each in range(chance.randint(1, 6)))
                return chance.choice((None, True, False, 0, 1, -1, chance.randint(-10 ** 60 + 1, 10 ** 60 - 1), word))
            return tuple(some_thing(depth - 1) for each in range(chance.randint(0, 4)))
        for turn in range(2000):
            thing = some_thing(chance.randint(0, 6))
            self.assertEqual(repr(read(show(thing))), repr(thing))

    def test_worlds_patterns_claims_programs_talks(self):
        chance = random.Random(57)
        for turn in range(60):
            program = some_program(chance)
            claim = some_claim(chance, 3)
            talk = some_whole_talk(chance)
            for thing in (program, claim, talk, some_world(chance, program), some_pattern(chance, program)):
                self.assertEqual(repr(read(show(thing))), repr(thing))


class NotWritten(Texts):
    def test_no_texts(self):
        for text in NO_TEXTS:
            self.no_text(text)

    def test_what_is_no_text(self):
        for thing in (None, 0, 1, True, (), (1,), [], ["1"], b"1", {}, 1.5):
            self.no_text(thing)

    def test_figures(self):
        self.assertEqual(read("9" * 60), 10 ** 60 - 1)
        self.assertEqual(read("-" + "9" * 60), 1 - 10 ** 60)
        for figures in (61, 62, 300):
            for text in ("9" * figures, "-" + "9" * figures, "(a (" + "1" * figures + "))"):
                self.no_text(text)

    def test_too_deep(self):
        for levels in (31, 32, 100, 3000):
            for within in ("", "1", "a b"):
                self.no_text(deep(levels, within))
        self.no_text("(" + deep(29) + " " + deep(30) + ")")
        self.no_text("(1 2 " + deep(30) + ")")

    def test_all_short_texts(self):
        # Every text of these signs is refused, or is written just so.
        read_ones = 0
        for length in range(7):
            for signs in itertools.product("( )0a-" if length == 6 else "( )01a-", repeat=length):
                text = "".join(signs)
                try:
                    thing = read(text)
                except NoText:
                    continue
                self.assertEqual(show(thing), text)
                read_ones += 1
        self.assertGreater(read_ones, 80)


class ReadAs(unittest.TestCase):
    PROGRAM = (1, (0, 0), ((("bell",), ("go", 0)),), (0,))
    CLAIM = ("never", ("count", 0, ("at", 1), 1, None))
    TALK = (("say", 0, 1, 5), ("fork", 0, (1,), ((1, ()), (2, ()))))

    def test_good_ones(self):
        self.assertEqual(read_program("(1 (0 0) (((bell) (go 0))) (0))"), self.PROGRAM)
        self.assertEqual(read_claim("(never (count 0 (at 1) 1 none))", self.PROGRAM), self.CLAIM)
        self.assertEqual(read_talk("((say 0 1 5) (fork 0 (1) ((1 ()) (2 ()))))"), self.TALK)
        self.assertEqual(read_talk("()"), ())

    def test_no_text(self):
        for text in NO_TEXTS + [None, self.PROGRAM, self.TALK, 5]:
            for ask in (read_program, read_talk, lambda each: read_claim(each, self.PROGRAM)):
                with self.assertRaises(NoText):
                    ask(text)

    def test_no_program(self):
        for text, role, place in (("5", -1, -1), ("none", -1, -1), ("()", -1, -1), ("program", -1, -1),
                                  ("(0 (0 0) (()) (0))", -1, -1), ("(1 (0 0) (((bell) (go 7))) (0))", 0, 1),
                                  ("(yes (0 0) (()) (0))", -1, -1), ("(1 (0 0) (() ((bel))) (0))", 1, 0)):
            with self.assertRaises(NoProgram) as caught:
                read_program(text)
            self.assertEqual((caught.exception.role, caught.exception.place), (role, place))

    def test_no_claim(self):
        for text in ("5", "()", "none", "never", "(never)", "(never (count 1 (at 1) 1 none))", "(comes (letters 1 0 0))",
                     "(never (count 0 (at 1) yes none))"):
            with self.assertRaises(NoClaim):
                read_claim(text, self.PROGRAM)

    def test_no_talk(self):
        for text, spot in (("5", ()), ("none", ()), ("talk", ()), ("((say 0 0 5))", (0,)), ("(() ())", (0,)),
                           ("((say 0 1 5) (fork 0 (1) ((1 ()) (2 ((say 0 1 none))))))", (1, 1, 0)),
                           ("(" + " ".join(["(say 0 1 5)"] * 41) + ")", ())):
            with self.assertRaises(NoTalk) as caught:
                read_talk(text)
            self.assertEqual(caught.exception.spot, spot)


if __name__ == "__main__":
    unittest.main()
