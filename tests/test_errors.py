"""The refusals: where they stand, and what they keep [2]."""

import unittest

from exitweave import errors

FIELDS = {
    "NoProgram": ("place",),
    "TooMuch": ("place",),
    "Doubled": ("place", "name"),
    "Unknown": ("place", "name"),
    "WrongCount": ("place", "name"),
    "Forgotten": ("place", "way", "chain"),
    "NoRun": ("given",),
    "NoCode": ("place",),
    "NoPass": ("given",),
}

THINGS = [
    0, 7, -3, 10 ** 40, "", "main", "two words", [], [1, "a", [2]], (), (1, "b"),
    {}, {"a": 1}, None, True, False, object(),
]


def made_of_things(kind, count, first):
    things = [THINGS[(first + step) % len(THINGS)] for step in range(count)]
    return kind(*things), things


class ErrorsTest(unittest.TestCase):
    def test_weave_error_stands_straight_under_value_error(self):
        self.assertEqual(errors.WeaveError.__bases__, (ValueError,))
        self.assertIsInstance(errors.WeaveError("words"), ValueError)

    def test_each_refusal_stands_straight_under_weave_error_and_no_other(self):
        for word in FIELDS:
            with self.subTest(word):
                kind = getattr(errors, word)
                self.assertEqual(kind.__bases__, (errors.WeaveError,))
                error, _ = made_of_things(kind, len(FIELDS[word]), 0)
                self.assertIsInstance(error, errors.WeaveError)
                self.assertIsInstance(error, ValueError)
                for other in FIELDS:
                    self.assertEqual(isinstance(error, getattr(errors, other)), other == word)

    def test_each_refusal_keeps_what_it_was_made_of(self):
        for word, fields in FIELDS.items():
            for first in range(len(THINGS)):
                error, things = made_of_things(getattr(errors, word), len(fields), first)
                for field, thing in zip(fields, things):
                    with self.subTest(word, field=field, thing=thing):
                        self.assertIs(getattr(error, field), thing)

    def test_a_list_is_kept_itself_not_as_a_copy(self):
        for word, fields in FIELDS.items():
            lists = [[number] for number in range(len(fields))]
            error = getattr(errors, word)(*lists)
            for field, kept in zip(fields, lists):
                with self.subTest(word, field=field):
                    self.assertEqual(getattr(error, field), kept)
                    kept.append("more")
                    self.assertIs(getattr(error, field), kept)

    def test_each_refusal_takes_its_arguments_by_their_names(self):
        for word, fields in FIELDS.items():
            error = getattr(errors, word)(**{field: field + "!" for field in fields})
            for field in fields:
                self.assertEqual(getattr(error, field), field + "!")

    def test_too_few_and_too_many_things_make_no_refusal(self):
        for word, fields in FIELDS.items():
            for count in (len(fields) - 1, len(fields) + 1):
                with self.subTest(word, count=count), self.assertRaises(TypeError):
                    getattr(errors, word)(*[1] * count)

    def test_a_refusal_is_taken_by_its_own_name_and_by_those_above(self):
        for word, fields in FIELDS.items():
            kind = getattr(errors, word)
            for above in (kind, errors.WeaveError, ValueError):
                with self.assertRaises(above):
                    raise kind(*[1] * len(fields))


if __name__ == "__main__":
    unittest.main()
