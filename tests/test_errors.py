import unittest

from eachgreatest.errors import NoAsk, NoName, NoRow, NoWeb, SetError

REFUSALS = (NoRow, NoAsk, NoWeb, NoName)


class ErrorsTest(unittest.TestCase):
    def test_any_refusal_is_a_value_error(self):
        self.assertTrue(issubclass(SetError, ValueError))
        with self.assertRaises(ValueError):
            raise SetError("why")

    def test_each_stands_under_set_error_and_no_other(self):
        for one in REFUSALS:
            self.assertTrue(issubclass(one, SetError))
            for other in REFUSALS:
                self.assertEqual(issubclass(one, other), one is other)

    def test_made_of_a_text(self):
        for refusal in (NoRow, NoAsk):
            self.assertEqual(str(refusal("some text")), "some text")

    def test_no_web_keeps_its_row(self):
        for row in (0, 7):
            self.assertEqual(NoWeb(row).row, row)
            self.assertIs(type(NoWeb(row).row), int)

    def test_no_name_keeps_its_word(self):
        for word in ("abc", "", "Not A Name"):
            self.assertEqual(NoName(word).word, word)


if __name__ == "__main__":
    unittest.main()
