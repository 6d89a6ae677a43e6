import unittest

from hookedcords import errors
from hookedcords.errors import HookError

FIELDS = {
    "BadCords": ["value"], "BadFigure": ["place"], "BadRow": ["number"], "BadFamily": ["number"],
    "BadBook": ["number"], "BadSeen": ["number"], "BadColours": ["number"], "BadSum": ["number"],
    "BadNumber": ["value"], "BadPaper": ["word"], "BadWords": ["line", "word"], "BadName": ["name"],
    "NothingBack": [], "TooGreat": ["most"],
}


class Errors(unittest.TestCase):
    def test_hook_error_is_a_value_error_made_of_any_values(self):
        self.assertEqual(HookError.__bases__, (ValueError,))
        for values in [(), (1,), ("x", None), ([1], {2: 3}, (4,)), (True,)]:
            self.assertEqual(HookError(*values).args, values)

    def test_there_are_just_these_direct_subclasses(self):
        self.assertEqual(sorted(one.__name__ for one in HookError.__subclasses__()), sorted(FIELDS))
        for name in FIELDS:
            self.assertEqual(getattr(errors, name).__bases__, (HookError,), name)
            self.assertEqual(getattr(errors, name).__subclasses__(), [], name)

    def test_fields_are_the_very_values_by_position_and_by_name(self):
        for name, fields in FIELDS.items():
            made = getattr(errors, name)
            for value in [None, True, 0, -1, 10 ** 900, "text", (1, (2,)), [], {}, object()]:
                for one in [made(*[value for _ in fields]), made(**{field: value for field in fields})]:
                    for field in fields:
                        self.assertIs(getattr(one, field), value, name)
                    self.assertEqual(sorted(vars(one)), sorted(fields), name)

    def test_two_fields_keep_their_order(self):
        one = errors.BadWords(3, 7)
        self.assertEqual((one.line, one.word), (3, 7))

    def test_another_number_of_values_is_no_error_of_the_package(self):
        for name, fields in FIELDS.items():
            with self.assertRaises(TypeError):
                getattr(errors, name)(*range(len(fields) + 1))
            if fields:
                with self.assertRaises(TypeError):
                    getattr(errors, name)()

    def test_they_are_caught_as_hook_error_and_as_value_error(self):
        for name, fields in FIELDS.items():
            for caught in (HookError, ValueError):
                with self.assertRaises(caught):
                    raise getattr(errors, name)(*fields)
