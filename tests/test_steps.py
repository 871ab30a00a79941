import unittest

from letterall.errors import NoStep
from letterall.steps import step_of

LENGTH = 7
COUNTS = (1, 2, 0, 1)

# For each sort of thing in a step: some that fit, at the edges, and whole numbers just beyond.
BOX = ((0, 1, 2), (-1, 3))
BOX_OR_NONE = ((-1, 0, 1, 2), (-2, 3))
SET = ((0, 1), (-1, 2))
NUMBER = ((0, 1, -1, 10 ** 59, -(10 ** 59)), ())
PLACE = ((0, 1, LENGTH), (-1, LENGTH + 1))
ROLE = ((0, 1, 2, 3), (-1, 4))
LONE = ((0, 3), (1, 2, -1, 4))
KIND = ((1, 12), (-1, 0, 13))
LINE_KIND = ((0, 1, 12), (-1, 13))
CHOICES = ((1, 2, 20), (-1, 0, 21))
AMOUNT = ((0, 1, 6), (-1, 7))

SORTS = {
    "put": (BOX, NUMBER),
    "copy": (BOX, BOX),
    "raise": (BOX, NUMBER),
    "sum": (BOX, BOX),
    "choose": (BOX, CHOICES),
    "less": (BOX, NUMBER, PLACE),
    "before": (BOX, BOX, PLACE),
    "go": (PLACE,),
    "me": (BOX,),
    "only": (BOX, LONE),
    "pick": (BOX, ROLE),
    "alike": (BOX, BOX, PLACE),
    "all": (SET, ROLE),
    "empty": (SET,),
    "join": (SET, BOX),
    "out": (BOX, SET, PLACE),
    "many": (SET, AMOUNT, PLACE),
    "send": (BOX, KIND, BOX, BOX),
    "bell": (),
}

# Each word: a step, where one may go on behind it at place 2, what it may write.
EXAMPLES = (
    (("put", 1, -4), (3,), (("number", 1),)),
    (("copy", 2, 0), (3,), (("number", 2),)),
    (("raise", 0, 5), (3,), (("number", 0),)),
    (("sum", 1, 1), (3,), (("number", 1),)),
    (("choose", 2, 20), (3,), (("number", 2),)),
    (("less", 1, 4, 6), (3, 6), ()),
    (("before", 1, 2, 0), (0, 3), ()),
    (("go", 5), (5,), ()),
    (("me", 2), (3,), (("name", 2),)),
    (("only", 1, 3), (3,), (("name", 1),)),
    (("pick", 0, 1), (3,), (("name", 0),)),
    (("alike", 0, 1, 7), (3, 7), ()),
    (("all", 1, 0), (3,), (("set", 1),)),
    (("empty", 0), (3,), (("set", 0),)),
    (("join", 1, 2), (3,), (("set", 1),)),
    (("out", 2, 1, 1), (1, 3), (("name", 2), ("set", 1))),
    (("many", 1, 2, 4), (3, 4), ()),
    (("send", 0, 12, 1, 2), (3,), ()),
    (("take", 1, ((4, 2, 0, 1, 6), (2, 0, 2, 1, 0))), (0, 6),
     (("name", 0), ("name", 1), ("name", 2), ("number", 0), ("number", 2))),
    (("bell",), (3,), (("bell",),)),
)

WRONG_THINGS = (True, False, None, "1", "put", 1.0, (), (1,), [], [1], {})


def line(kind=1, a=0, m=0, f=1, place=3):
    return (kind, a, m, f, place)


def made(told):
    return step_of(told, LENGTH, COUNTS)


class Good(unittest.TestCase):
    def test_all_words_have_an_example(self):
        self.assertEqual(len({told[0] for told, nexts, writes in EXAMPLES}), 20)

    def test_told_is_the_tuple_again(self):
        for told, nexts, writes in EXAMPLES:
            with self.subTest(told=told):
                self.assertIs(type(made(told).told()), tuple)
                self.assertEqual(made(told).told(), told)

    def test_the_edges_of_each_number(self):
        for word, sorts in SORTS.items():
            base = [sort[0][0] for sort in sorts]
            for at, sort in enumerate(sorts):
                for good in sort[0]:
                    told = (word, *base[:at], good, *base[at + 1:])
                    with self.subTest(told=told):
                        self.assertEqual(made(told).told(), told)


class Refused(unittest.TestCase):
    def refused(self, told, length=LENGTH, counts=COUNTS):
        with self.subTest(told=told, length=length, counts=counts):
            with self.assertRaises(NoStep):
                step_of(told, length, counts)

    def test_each_number_just_beyond_and_other_things(self):
        for word, sorts in SORTS.items():
            base = [sort[0][0] for sort in sorts]
            for at, sort in enumerate(sorts):
                for bad in sort[1] + WRONG_THINGS:
                    self.refused((word, *base[:at], bad, *base[at + 1:]))

    def test_a_thing_more_or_less(self):
        for told, nexts, writes in EXAMPLES:
            self.refused(told[:-1])
            self.refused(told + (0,))
            self.refused(told + (None,))
            self.refused(told + told[-1:])

    def test_a_list_in_a_tuples_place(self):
        for told, nexts, writes in EXAMPLES:
            self.refused(list(told))

    def test_another_word(self):
        for word in ("", "Put", "puts", "fall", "lose", "do", None, 0, True, ("put",), ["put"], {}):
            self.refused((word, 0, 0))
            self.refused((word,))

    def test_what_is_no_tuple(self):
        for thing in (None, "bell", "put", 0, True, [], {}, {"bell": 1}, ()):
            self.refused(thing)

    def test_only_of_a_role_with_none_one_and_two_hands(self):
        self.assertEqual(step_of(("only", 0, 1), 1, (0, 1, 2)).told(), ("only", 0, 1))
        self.refused(("only", 0, 0), 1, (0, 1, 2))
        self.refused(("only", 0, 2), 1, (0, 1, 2))
        self.refused(("only", 0, 3), 1, (0, 1, 2))
        self.refused(("only", 0, -1), 1, (0, 1, 1))
        self.refused(("only", 0, True), 1, (0, 1, 2))

    def test_places_by_the_length(self):
        self.assertEqual(step_of(("go", 0), 0, (1,)).told(), ("go", 0))
        self.assertEqual(step_of(("go", 60), 60, (1,)).told(), ("go", 60))
        self.refused(("go", 1), 0, (1,))
        self.refused(("go", 61), 60, (1,))

    def test_roles_by_the_counts(self):
        self.assertEqual(step_of(("pick", 0, 0), 0, (0,)).told(), ("pick", 0, 0))
        self.refused(("pick", 0, 1), 0, (1,))
        self.refused(("all", 0, 1), 0, (1,))


class Take(unittest.TestCase):
    def good(self, told):
        with self.subTest(told=told):
            self.assertEqual(made(told).told(), told)

    def refused(self, told):
        with self.subTest(told=told):
            with self.assertRaises(NoStep):
                made(told)

    def test_the_box(self):
        for box in BOX_OR_NONE[0]:
            self.good(("take", box, (line(),)))
        for box in BOX_OR_NONE[1] + WRONG_THINGS:
            self.refused(("take", box, (line(),)))

    def test_no_line_one_thirteen_fourteen(self):
        thirteen = tuple(line(kind) for kind in range(13))
        self.good(("take", -1, thirteen[:1]))
        self.good(("take", -1, thirteen))
        self.good(("take", -1, tuple(reversed(thirteen))))
        self.refused(("take", -1, ()))
        self.refused(("take", -1, thirteen + (line(13),)))
        self.refused(("take", -1, thirteen + (line(1),)))

    def test_a_kind_told_twice(self):
        self.refused(("take", 0, (line(3), line(3))))
        self.refused(("take", 0, (line(3), line(4), line(3, 1, 1, 2, 5))))
        self.refused(("take", 0, (line(0), line(0))))

    def test_names_alike(self):
        for box in range(3):
            self.refused(("take", 0, (line(m=box, f=box),)))
            self.refused(("take", 0, (line(), line(2, m=box, f=box))))
            self.refused(("take", 0, (line(0, m=box, f=box),)))

    def test_kind_nought(self):
        self.good(("take", 0, (line(0),)))
        self.good(("take", -1, (line(5), line(0), line(7))))
        self.refused(("take", 0, (line(0, a=3),)))
        self.refused(("take", 0, (line(0, place=8),)))

    def test_each_number_of_a_line(self):
        for at, sort in enumerate((LINE_KIND, BOX, (BOX[0][:1] + BOX[0][2:], BOX[1]), (BOX[0][1:], BOX[1]), PLACE)):
            base = line()
            for good in sort[0]:
                self.good(("take", -1, (base[:at] + (good,) + base[at + 1:],)))
            for bad in sort[1] + WRONG_THINGS:
                self.refused(("take", -1, (base[:at] + (bad,) + base[at + 1:],)))

    def test_lines_of_another_form(self):
        for lines in (None, 0, "ab", [line()], line(), (list(line()),), (None,), ("abcde",), (line()[:4],),
                      (line() + (0,),), (line(), None), (line(), 3), ((),)):
            self.refused(("take", 0, lines))


class Told(unittest.TestCase):
    def test_nexts(self):
        for told, nexts, writes in EXAMPLES:
            with self.subTest(told=told):
                self.assertIs(type(made(told).nexts(2)), tuple)
                self.assertEqual(made(told).nexts(2), nexts)

    def test_nexts_each_once(self):
        for told in (("less", 0, 1, 5), ("before", 0, 1, 5), ("alike", 0, 1, 5), ("out", 0, 1, 5), ("many", 0, 1, 5)):
            with self.subTest(told=told):
                self.assertEqual(made(told).nexts(4), (5,))
                self.assertEqual(made(told).nexts(5), (5, 6))
                self.assertEqual(made(told).nexts(6), (5, 7))
        lines = (line(9, place=4), line(0, place=2), line(3, place=4), line(1, place=7))
        self.assertEqual(made(("take", -1, lines)).nexts(0), (2, 4, 7))
        self.assertEqual(made(("take", -1, (line(0, place=6),))).nexts(0), (6,))

    def test_forward(self):
        for told, nexts, writes in EXAMPLES:
            with self.subTest(told=told):
                self.assertIs(made(told).forward(2), min(nexts) > 2)

    def test_forward_at_its_edges(self):
        for told in (("go", 3), ("less", 0, 1, 3), ("before", 0, 1, 3), ("alike", 0, 1, 3), ("out", 0, 1, 3),
                     ("many", 0, 1, 3), ("take", 0, (line(0, place=5), line(2, place=3))),
                     ("take", 0, (line(2, place=3), line(1, place=5)))):
            with self.subTest(told=told):
                self.assertIs(made(told).forward(2), True)
                self.assertIs(made(told).forward(3), False)
                self.assertIs(made(told).forward(4), False)
        self.assertIs(made(("bell",)).forward(6), True)

    def test_is_quiet_word(self):
        for told, nexts, writes in EXAMPLES:
            with self.subTest(told=told):
                self.assertIs(made(told).is_quiet_word(), told[0] not in ("send", "take"))

    def test_writes(self):
        for told, nexts, writes in EXAMPLES:
            with self.subTest(told=told):
                self.assertIs(type(made(told).writes()), tuple)
                self.assertEqual(made(told).writes(), writes)

    def test_writes_of_take(self):
        self.assertEqual(made(("take", 2, (line(0, 2, 1, 2, 3),))).writes(), (("bell",),))
        self.assertEqual(made(("take", 2, (line(7, 2, 1, 0, 3), line(0, 0, 2, 1, 3)))).writes(),
                         (("bell",), ("name", 0), ("name", 1), ("number", 2)))
        self.assertEqual(made(("take", 2, (line(7, 1, 0, 1, 3), line(8, 1, 1, 0, 4)))).writes(),
                         (("name", 0), ("name", 1), ("number", 1)))


if __name__ == "__main__":
    unittest.main()
