import unittest

from letterall.errors import (CantKnow, LetterError, NoClaim, NoLine, NoMove, NoProgram, NoRenaming, NoStep, NoTalk,
                              NoText)

CLASSES = (NoStep, NoProgram, NoClaim, NoMove, NoRenaming, NoTalk, CantKnow, NoText, NoLine)


class ErrorClasses(unittest.TestCase):
    def test_letter_error_is_a_value_error(self):
        self.assertTrue(issubclass(LetterError, ValueError))

    def test_each_is_a_letter_error_and_a_value_error(self):
        for refusal in CLASSES:
            with self.subTest(refusal=refusal.__name__):
                self.assertTrue(issubclass(refusal, LetterError))
                self.assertTrue(issubclass(refusal, ValueError))
                self.assertIsNot(refusal, LetterError)

    def test_none_is_another_one(self):
        self.assertEqual(len(set(CLASSES)), 9)
        for one in CLASSES:
            for other in CLASSES:
                if one is not other:
                    with self.subTest(one=one.__name__, other=other.__name__):
                        self.assertFalse(issubclass(one, other))

    def test_each_is_taken_as_a_letter_error(self):
        made = (NoStep("w"), NoProgram(1, 2), NoClaim("w"), NoMove(1), NoRenaming("w"), NoTalk((0,)),
                CantKnow((0,), 2), NoText("w"), NoLine("w"))
        for error in made:
            with self.subTest(error=error):
                with self.assertRaises(LetterError):
                    raise error


class ErrorValues(unittest.TestCase):
    def test_no_program(self):
        error = NoProgram(3, 17)
        self.assertEqual((error.role, error.place), (3, 17))
        error = NoProgram(-1, -1)
        self.assertEqual((error.role, error.place), (-1, -1))

    def test_no_move(self):
        self.assertEqual(NoMove(0).at, 0)
        self.assertEqual(NoMove(41).at, 41)

    def test_no_talk(self):
        self.assertEqual(NoTalk(()).spot, ())
        self.assertEqual(NoTalk((2, 1, 0)).spot, (2, 1, 0))

    def test_cant_know(self):
        error = CantKnow((4, 0, 1), 2)
        self.assertEqual((error.spot, error.hand), ((4, 0, 1), 2))
        self.assertEqual(CantKnow((), 0).spot, ())

    def test_the_words_can_be_shown(self):
        for error in (NoProgram(1, 2), NoMove(3), NoTalk((1, 2)), NoTalk(()), CantKnow((1,), 3)):
            self.assertIsInstance(str(error), str)


if __name__ == "__main__":
    unittest.main()
