import random
import unittest

from letterall.comings import look
from letterall.cuts import program_of
from letterall.deeds import do, moves
from letterall.desk import Desk
from letterall.errors import CantKnow, LetterError, NoClaim, NoLine, NoMove, NoProgram, NoTalk, NoText
from letterall.folded import go_folded
from letterall.papers import fault
from letterall.plainly import go_plainly
from letterall.ranks import count_fault
from letterall.runs import run
from letterall.texts import read, show
from letterall.thinned import go_thinned
from letterall.worlds import first
from tests.samples import BELL, some_claim, some_program, some_whole_talk

PROGRAM = (1, (0, 0), ((("choose", 0, 2), BELL),), (0, 0))
TEXT = "(1 (0 0) (((choose 0 2) (bell))) (0 0))"
NEVER = ("never", ("letters", 1, 1, None))
COMES = ("comes", ("count", 0, ("at", 0), 1, None), ("count", 0, ("at", 2), 2, None))
WORLD = show(first(PROGRAM))
WORDS = ("program", "claim", "moves", "do", "run", "plain", "folded", "thin", "comes", "check", "counts", "talk")
# A row of each word that asks for a program, with good things.
ASKING = ("claim " + show(NEVER), "moves " + WORLD, "do " + WORLD + " (do 0 0)", "run 5 (0 1)", "plain 50", "folded 50",
          "thin 50", "comes 50", "check ()", "counts ()")


def as_tuples(thing):
    return tuple(as_tuples(each) for each in thing) if isinstance(thing, (list, tuple)) else thing


class Desks(unittest.TestCase):
    def desk(self, claim=None, program=PROGRAM):
        desk = Desk()
        self.assertEqual(desk.say("program " + show(program)), [])
        if claim is not None:
            self.assertEqual(desk.say("claim " + show(claim)), [])
        return desk

    def refuses(self, desk, row, error, **fields):
        with self.subTest(row=row):
            with self.assertRaises(LetterError) as caught:
                desk.say(row)
            self.assertIs(type(caught.exception), error)
            for name, value in fields.items():
                self.assertEqual(getattr(caught.exception, name), value)


class Rows(Desks):
    def test_program_and_claim(self):
        desk = Desk()
        self.assertEqual(desk.say("program " + TEXT), [])
        self.assertEqual(desk.say("claim (never (letters 1 1 none))"), [])
        self.assertEqual(desk.say("plain 1"), ["(more)"])

    def test_moves(self):
        desk = self.desk()
        self.assertEqual(desk.say("moves " + WORLD), ["(do 0 0)", "(do 0 1)", "(do 1 0)", "(do 1 1)"])
        ended = "(((2 (0 0 0) (-1 -1 -1) (0 0) yes) (2 (1 0 0) (-1 -1 -1) (0 0) yes)) ((() ()) (() ())) (0 0))"
        self.assertEqual(desk.say("moves " + ended), [])

    def test_do(self):
        told = self.desk().say("do " + WORLD + " (do 1 1)")
        self.assertEqual(told, ["(((0 (0 0 0) (-1 -1 -1) (0 0) no) (1 (1 0 0) (-1 -1 -1) (0 0) no)) "
                                "((() ()) (() ())) (0 0))"])
        self.assertEqual(read(told[0]), do(PROGRAM, first(PROGRAM), ("do", 1, 1)))

    def test_run(self):
        desk = self.desk()
        for most, picks in ((1, (0,)), (2, (3,)), (50, (0,)), (50, (1, 2, 3)), (50, (-1, 10 ** 59)), (3, (0, 1, 2, 3, 4))):
            turn = iter(range(1000))
            worlds = run(PROGRAM, lambda may: picks[next(turn) % len(picks)], most)[1]
            told = desk.say("run " + str(most) + " " + show(picks))
            self.assertEqual(told, [show(world) for world in worlds[1:]])
        self.assertEqual(len(desk.say("run 50 (0)")), 4)
        # The picks begin anew with each row.
        self.assertEqual(desk.say("run 1 (0 3)"), desk.say("run 1 (0 3)"))
        self.assertEqual(self.desk(program=(1, (0, 0), ((),), (0,))).say("run 5 (0)"), [])

    def test_going_through(self):
        for claim in (NEVER, ("never", ("count", 0, BELL, 2, None)), ("behind", ("count", 0, BELL, 1, None), NEVER[1]),
                      ("behind", ("letters", 1, 1, None), NEVER[1])):
            desk = self.desk(claim)
            for most in (1, 3, 13, 25, 100):
                for word, go in (("plain", go_plainly), ("folded", go_folded), ("thin", go_thinned)):
                    told = desk.say(word + " " + str(most))
                    self.assertEqual(len(told), 1)
                    self.assertEqual(read(told[0]), as_tuples(go(PROGRAM, claim, most)))
        self.assertEqual(desk.say("plain 1"), ["(more)"])
        broken = self.desk(("never", ("count", 0, BELL, 1, None))).say("plain 100")
        self.assertEqual(broken, ["(broken ((do 0 0) (do 0 0)))"])
        self.assertEqual(self.desk(("never", ("not", NEVER[1]))).say("thin 9"), ["(broken ())"])

    def test_comes(self):
        stuck = ("comes", ("count", 0, ("at", 0), 1, None), ("letters", 1, 1, None))
        for claim in (COMES, stuck):
            desk = self.desk(claim)
            for most in (1, 25, 100):
                self.assertEqual(read(desk.say("comes " + str(most))[0]), as_tuples(look(PROGRAM, claim, most)))
        ring = self.desk(("comes", ("count", 0, ("at", 0), 1, None), NEVER[1]), (1, (0, 0), ((("go", 0),),), (0,)))
        self.assertEqual(ring.say("comes 5"), ["(ring () ((do 0 0)))"])
        # Also plainly and folded there are pairs of a claim comes.
        self.assertEqual(read(self.desk(COMES).say("plain 100")[0]), as_tuples(go_plainly(PROGRAM, COMES, 100)))
        self.assertEqual(read(self.desk(COMES).say("folded 100")[0]), as_tuples(go_folded(PROGRAM, COMES, 100)))

    def test_check(self):
        desk = self.desk(NEVER)
        paper = read(desk.say("thin 100")[0])[1]
        self.assertEqual(desk.say("check " + show(paper)), ["none"])
        self.assertEqual(desk.say("check ()"), ["(first)"])
        self.assertEqual(desk.say("check none"), ["(first)"])
        self.assertEqual(desk.say("check (1 2)"), ["(form 0)"])
        self.assertEqual(desk.say("check " + show(paper[:1])), ["(form 0)"])
        wrong = paper[:3] + (paper[3][:3] + (paper[3][3][:1],),) + paper[4:]
        self.assertEqual(desk.say("check " + show(wrong)), [show(fault(PROGRAM, NEVER, wrong))])
        self.assertEqual(desk.say("check " + show(wrong)), ["(step 3 1)"])

    def test_counts(self):
        desk = self.desk(COMES)
        counts = read(desk.say("comes 100")[0])[1]
        self.assertEqual(desk.say("counts " + show(counts)), ["none"])
        self.assertEqual(desk.say("counts ()"), ["(first)"])
        self.assertEqual(desk.say("counts 5"), ["(first)"])
        self.assertEqual(desk.say("counts (())"), ["(form 0)"])
        self.assertEqual(desk.say("counts " + show(counts[:5])), [show(count_fault(PROGRAM, COMES, counts[:5]))])
        self.assertEqual(desk.say("counts " + show(counts[:5])), ["(list 1)"])

    def test_talk(self):
        talk = (("say", 0, 1, 5), ("fork", 1, (0,), ((1, ()), (2, (("say", 0, 1, 3),)))))
        desk = Desk()
        self.assertEqual(desk.say("talk " + show(talk) + " 4"), [show(program_of(talk, 4))])
        # It is not the desk's program.
        self.refuses(desk, "moves " + WORLD, NoProgram, role=-1, place=-1)
        desk = self.desk(NEVER)
        ahead = desk.say("plain 50")
        desk.say("talk " + show(talk) + " 1")
        self.assertEqual(desk.say("plain 50"), ahead)

    def test_another_program_forgets_the_claim(self):
        desk = self.desk(NEVER)
        self.assertEqual(desk.say("program " + TEXT), [])
        self.refuses(desk, "plain 50", NoClaim)
        self.assertEqual(desk.say("claim " + show(NEVER)), [])
        self.assertEqual(desk.say("program (1 (0 0) (()) (0))"), [])
        self.refuses(desk, "plain 50", NoClaim)
        self.assertEqual(desk.say("run 5 (0)"), [])

    def test_another_claim(self):
        desk = self.desk(NEVER)
        desk.say("claim " + show(COMES))
        self.assertEqual(desk.say("comes 100")[0][:7], "(comes ")

    def test_two_desks(self):
        one, other = self.desk(NEVER), Desk()
        self.refuses(other, "plain 5", NoProgram, role=-1, place=-1)
        self.assertEqual(one.say("plain 5"), ["(more)"])

    def test_the_list_is_the_askers_own(self):
        desk = self.desk(NEVER)
        for row in ASKING[1:7] + ("check ()", "program " + TEXT):
            told = desk.say(row)
            again = list(told)
            told.append("more")
            if row != "program " + TEXT:
                self.assertEqual(desk.say(row), again)


class NoRows(Desks):
    def desks(self):
        return [Desk(), self.desk(), self.desk(NEVER)]

    def test_no_word(self):
        for desk in self.desks():
            for row in ("", " ", "plan 5", "plain5", "Plain 5", " plain 5", "plain\t5", "plain\n", "()", "5", "(plain 5)",
                        "walk ()", "yes", "none", "plainly 5", "program(1)", "moves,", "help ("):
                self.refuses(desk, row, NoLine)

    def test_no_text_at_all(self):
        for desk in self.desks():
            for row in (None, 5, True, (), ("plain", 5), ["plain 5"], b"plain 5", {}):
                self.refuses(desk, row, NoLine)

    def test_no_things(self):
        for desk in self.desks():
            for word in WORDS:
                for rest in (" ", "  5", " 5 ", " 5  5", " (", " )", " (1", " 1)", " A", " 01", " -0", " ( )", " (1)(2)",
                             " 5) (5", " " + "1" * 61, " " + "(" * 31 + ")" * 31, " 5 (1 2", " 5\n", " 5 5 5 X"):
                    self.refuses(desk, word + rest, NoText)

    def test_things_thirty_deep(self):
        self.assertEqual(self.desk(NEVER).say("check " + "(" * 30 + ")" * 30), ["(form 0)"])

    def test_more_or_fewer_things(self):
        for desk in self.desks():
            for word in WORDS:
                amount = 2 if word in ("do", "run", "talk") else 1
                for count in range(5):
                    if count != amount:
                        self.refuses(desk, " ".join([word] + ["5"] * count), NoLine)
                        self.refuses(desk, " ".join([word] + ["none"] * count), NoLine)

    def test_no_program(self):
        for row in ASKING:
            self.refuses(Desk(), row, NoProgram, role=-1, place=-1)
        # It goes ahead of things that fit nowhere.
        for row in ("moves 5", "do 5 5", "run no ()", "plain 0", "thin none", "claim 5"):
            self.refuses(Desk(), row, NoProgram, role=-1, place=-1)

    def test_things_that_do_not_fit(self):
        other = show(first((1, (0, 0), ((),), (0,))))
        for desk in (self.desk(), self.desk(NEVER)):
            for world in ("5", "none", "()", "world", other, WORLD.replace("no", "0"), WORLD.replace("-1", "2"),
                          "(" + WORLD + ")"):
                self.refuses(desk, "moves " + world, NoText)
                self.refuses(desk, "do " + world + " (do 0 0)", NoText)
                self.refuses(desk, "do " + world + " 5", NoText)
            for most in ("0", "-1", "none", "yes", "no", "()", "(5)", "five"):
                for word in ("plain", "folded", "thin", "comes"):
                    self.refuses(desk, word + " " + most, NoText)
                self.refuses(desk, "run " + most + " (0)", NoText)
            for picks in ("()", "5", "none", "(yes)", "(0 no)", "(0 none)", "((0))", "(a)", "(0 1 ())", "pick"):
                self.refuses(desk, "run 5 " + picks, NoText)

    def test_no_claim(self):
        desk = self.desk()
        for row in ("plain 50", "folded 50", "thin 50", "comes 50", "check ()", "counts ()", "check 5", "counts none"):
            self.refuses(desk, row, NoClaim)
        # No claim is asked for by the others.
        self.assertEqual(len(desk.say("moves " + WORLD)), 4)
        self.assertEqual(len(desk.say("do " + WORLD + " (do 0 0)")), 1)
        self.assertEqual(len(desk.say("run 2 (0)")), 2)

    def test_as_the_deed_refuses(self):
        desk = self.desk(NEVER)
        self.refuses(desk, "program 5", NoProgram, role=-1, place=-1)
        self.refuses(desk, "program (1 (0 0) (((bell) (go 7))) (0))", NoProgram, role=0, place=1)
        self.refuses(desk, "claim 5", NoClaim)
        self.refuses(desk, "claim (never (count 1 (at 0) 1 none))", NoClaim)
        for move in ("5", "none", "()", "(do 0 2)", "(do 2 0)", "(fall 0)", "(lose 0 1)", "(do 0 yes)", "(do no 0)", "do"):
            self.refuses(desk, "do " + WORLD + " " + move, NoMove, at=0)
        for row in ("comes 50", "counts ()", "counts 5"):
            self.refuses(desk, row, NoClaim)
        desk = self.desk(COMES)
        for row in ("thin 50", "check ()", "check 5"):
            self.refuses(desk, row, NoClaim)

    def test_as_a_talk_is_refused(self):
        for desk in self.desks():
            self.refuses(desk, "talk 5 1", NoTalk, spot=())
            self.refuses(desk, "talk ((say 0 0 1)) none", NoTalk, spot=(0,))
            cant_know = "((say 0 1 1) (fork 0 (1) ((1 ((say 1 2 5))) (2 ()))))"
            self.refuses(desk, "talk " + cant_know + " 0", CantKnow, spot=(1,), hand=2)
            for room in ("0", "11", "none", "yes", "()", "room"):
                self.refuses(desk, "talk ((say 0 1 1)) " + room, NoProgram, role=-1, place=-1)
            self.refuses(desk, "talk () 1", NoProgram, role=-1, place=-1)

    def test_what_is_refused_changes_nothing(self):
        rows = ("program 5", "program (1 (0 0) (((go 7))) (0))", "program", "program " + TEXT + " 5", "program ( )",
                "claim 5", "claim (never (count 1 (at 0) 1 none))", "claim", "claim (", "moves 5", "run 0 (0)", "talk 5 5",
                "do " + WORLD + " (do 0 2)", "plain 0", "comes 50", "nothing", None)
        desk = self.desk(("never", ("count", 0, BELL, 2, None)))
        ahead = [desk.say(row) for row in ("plain 100", "folded 100", "thin 100", "moves " + WORLD, "run 9 (0)")]
        for row in rows:
            with self.assertRaises(LetterError):
                desk.say(row)
            self.assertEqual(
                [desk.say(row) for row in ("plain 100", "folded 100", "thin 100", "moves " + WORLD, "run 9 (0)")], ahead)
        desk = Desk()
        for row in rows:
            with self.assertRaises(LetterError):
                desk.say(row)
            self.refuses(desk, "run 5 (0)", NoProgram, role=-1, place=-1)


class ManyRows(Desks):
    def test_by_chance(self):
        chance = random.Random(58)
        for turn in range(40):
            program = some_program(chance, (0, 0, 1), 2, (1, 4), chance.choice(((0, 0), (1, 1))), chance.random() < 0.5)
            claim = some_claim(chance, 2)
            desk = self.desk(claim, program)
            for text in desk.say("run 6 (" + str(chance.randrange(99)) + " 5 8)"):
                world = read(text)
                self.assertEqual(desk.say("moves " + text), [show(move) for move in moves(program, world)])
                for move in desk.say("moves " + text):
                    self.assertEqual(desk.say("do " + text + " " + move), [show(do(program, world, read(move)))])
            self.assertEqual(read(desk.say("plain 60")[0]), as_tuples(go_plainly(program, claim, 60)))
            if claim[0] == "comes":
                told = read(desk.say("comes 60")[0])
                if told[0] == "comes":
                    self.assertEqual(desk.say("counts " + show(told[1])), ["none"])
            else:
                told = read(desk.say("thin 60")[0])
                if told[0] == "paper":
                    self.assertEqual(desk.say("check " + show(told[1])), ["none"])

    def test_talks(self):
        chance = random.Random(59)
        told = 0
        for turn in range(60):
            talk = some_whole_talk(chance)
            try:
                expected = [show(program_of(talk, 2))]
            except LetterError as error:
                self.refuses(Desk(), "talk " + show(talk) + " 2", type(error))
            else:
                self.assertEqual(Desk().say("talk " + show(talk) + " 2"), expected)
                self.assertEqual(Desk().say("program " + expected[0]), [])
                told += 1
        self.assertGreater(told, 15)


if __name__ == "__main__":
    unittest.main()
