import unittest

from dialecthall.errors import (Broken, DialectError, NoAsk, NoDialect, NoFamily, NoMost, NoName, NoRow, NoTable,
                                NoText, NoWriting, TooMany)

OF_A_TEXT = [NoText, NoTable, NoDialect, NoFamily, NoMost, NoAsk, NoRow]
OF_FIELDS = [(NoName, {"name": "abc"}), (TooMany, {"most": 24}),
             (Broken, {"row": 3, "place": 17, "word": "cut"}), (NoWriting, {"row": 5, "cell": 8})]
ALL = OF_A_TEXT + [refusal for refusal, fields in OF_FIELDS]


class Classes(unittest.TestCase):
    def test_there_are_eleven_refusals(self):
        self.assertEqual(len(set(ALL)), 11)

    def test_all_stand_straight_under_dialect_error(self):
        self.assertEqual(DialectError.__bases__, (ValueError,))
        for refusal in ALL:
            with self.subTest(refusal=refusal.__name__):
                self.assertEqual(refusal.__bases__, (DialectError,))
                self.assertTrue(issubclass(refusal, ValueError))

    def test_none_stands_under_another(self):
        for one in ALL:
            for other in ALL:
                with self.subTest(one=one.__name__, other=other.__name__):
                    self.assertEqual(issubclass(one, other), one is other)

    def test_names(self):
        self.assertEqual([refusal.__name__ for refusal in ALL],
                         ["NoText", "NoTable", "NoDialect", "NoFamily", "NoMost", "NoAsk", "NoRow",
                          "NoName", "TooMany", "Broken", "NoWriting"])


class Made(unittest.TestCase):
    def test_made_of_a_text_and_raised(self):
        for refusal in [DialectError] + OF_A_TEXT:
            for taken in (refusal, DialectError, ValueError):
                with self.subTest(refusal=refusal.__name__, taken=taken.__name__):
                    with self.assertRaises(taken) as caught:
                        raise refusal("some words")
                    self.assertIs(caught.exception.__class__, refusal)

    def test_made_of_fields_in_their_order(self):
        for refusal, fields in OF_FIELDS:
            for made in (refusal(*fields.values()), refusal(**fields)):
                with self.subTest(refusal=refusal.__name__):
                    self.assertEqual({name: getattr(made, name) for name in fields}, fields)
                    for taken in (refusal, DialectError, ValueError):
                        with self.assertRaises(taken):
                            raise made

    def test_fields_of_two_do_not_hang_together(self):
        one, other = Broken(1, 2, "quote"), Broken(4, 5, "line")
        self.assertEqual((one.row, one.place, one.word), (1, 2, "quote"))
        self.assertEqual((other.row, other.place, other.word), (4, 5, "line"))

    def test_no_name_keeps_the_thing_itself(self):
        for thing in (None, 7, True, "", [1, [2]], {"a": 1}, ("a", "b"), object()):
            self.assertIs(NoName(thing).name, thing)
        names = ["a"]
        made = NoName(names)
        names.append("b")
        self.assertIs(made.name, names)


if __name__ == "__main__":
    unittest.main()
