import unittest

from innercommits import errors
from innercommits.errors import InnercommitsError

FIELDS = {
    "BadWord": ["word"], "BadMode": ["mode"], "NoBlock": [], "NoRecord": ["record"],
    "TooMany": ["what"], "BadLibrary": ["line"], "Endless": ["name"], "Clash": ["name"],
    "NoFunction": ["name"], "BadChange": ["index"], "BadRecords": ["record"],
    "BadMove": ["thing"], "NotNow": ["thing"], "NoCall": ["number"], "Unknown": ["name"],
    "NoRow": ["name", "case"], "NoFace": ["face"], "NoFate": ["kept"], "Unlike": ["name"],
}
DATABASE_FIELDS = {
    "Doomed": ["first"], "Missing": ["mode"], "Present": ["mode"], "Refused": [],
    "Waits": ["record"], "Failed": ["word"],
}
WORDS = {
    "Doomed": "doomed", "Missing": "missing", "Present": "present",
    "Refused": "refused", "Waits": "waits",
}
VALUES = ["late", "", "x" * 3000, None, True, 7, -1, 10 ** 29, ("a", 1), [1, [2, "b"]]]


class ErrorsTest(unittest.TestCase):
    def each(self):
        for name, fields in {**FIELDS, **DATABASE_FIELDS}.items():
            yield name, getattr(errors, name), fields

    def test_base(self):
        self.assertEqual(InnercommitsError.__bases__, (ValueError,))

    def test_each_stands_directly_under_the_base(self):
        for name, error, _ in self.each():
            with self.subTest(name):
                self.assertEqual(error.__bases__, (InnercommitsError,))
                self.assertEqual(error.__module__, "innercommits.errors")

    def test_fields_by_position(self):
        for name, error, fields in self.each():
            for value in VALUES:
                values = [value, ("other", value)][:len(fields)]
                with self.subTest(name, values=values):
                    made = error(*values)
                    self.assertEqual([getattr(made, field) for field in fields], values)

    def test_fields_by_name(self):
        for name, error, fields in self.each():
            for value in VALUES:
                values = [value, ("other", value)][:len(fields)]
                with self.subTest(name, values=values):
                    made = error(**dict(zip(fields, values)))
                    self.assertEqual([getattr(made, field) for field in fields], values)

    def test_each_is_caught_as_a_value_error(self):
        for name, error, fields in self.each():
            with self.subTest(name):
                with self.assertRaises(ValueError) as caught:
                    raise error(*["late"] * len(fields))
                self.assertIsInstance(caught.exception, error)
                self.assertIsInstance(caught.exception, InnercommitsError)

    def test_words_of_the_database_errors(self):
        for name, word in WORDS.items():
            error = getattr(errors, name)
            fields = DATABASE_FIELDS[name]
            with self.subTest(name):
                self.assertEqual(error(*["late"] * len(fields)).word, word)
                self.assertEqual(error(**{field: "late" for field in fields}).word, word)
        self.assertEqual(errors.Failed("late").word, "late")
        self.assertEqual(errors.Failed(word="unleft").word, "unleft")

    def test_two_errors_share_nothing(self):
        one, other = errors.Doomed("late"), errors.Doomed("early")
        self.assertEqual([one.first, other.first], ["late", "early"])


if __name__ == "__main__":
    unittest.main()
