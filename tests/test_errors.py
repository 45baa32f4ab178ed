"""The exception classes [10, 12]."""

import inspect
import unittest

from everyzone import errors

BASES = {"TimeError": ValueError, "MissingError": KeyError, "StateError": LookupError}

FIELDS = {
    "TimeError": {
        "InvalidPart": "value",
        "InvalidInteger": "value",
        "InvalidName": "value",
        "InvalidTime": "value",
        "InvalidText": "value",
        "InvalidLine": "index",
        "InvalidBound": "value",
        "InvalidValues": "value",
        "InvalidCase": "value",
        "InvalidCommand": "value",
        "InvalidChange": "value",
        "InvalidJump": "value",
        "InvalidRule": "value",
        "InvalidLog": "value",
        "InvalidEntry": "value",
        "InvalidWord": "value",
        "Duplicate": "label",
        "NotZone": "value",
        "NotKind": "value",
        "NotProgram": "value",
        "UnlikeStarts": "value",
    },
    "MissingError": {"NoAnswer": "index", "UnknownName": "label", "NoPlace": "index", "NoLine": "index"},
    "StateError": {"NotStart": "value", "NotPossible": "value", "NoProgram": None, "NothingToUndo": None},
}


def all_classes():
    """Each class below a base: the class, the base, and the name of its field or None."""
    for base, names in FIELDS.items():
        for name, field in names.items():
            yield getattr(errors, name), getattr(errors, base), field


class Bases(unittest.TestCase):
    def test_bases_are_directly_under_errors_of_python(self):
        for name, parent in BASES.items():
            self.assertEqual(getattr(errors, name).__bases__, (parent,), name)

    def test_bases_are_made_with_one_string(self):
        for name, parent in BASES.items():
            made = getattr(errors, name)("some words")
            self.assertIsInstance(made, parent)
            self.assertEqual(made.args, ("some words",))

    def test_each_class_is_directly_under_its_base_alone(self):
        for made, base, field in all_classes():
            self.assertEqual(made.__bases__, (base,), made)

    def test_there_are_these_classes_and_no_others(self):
        here = {name for name, made in inspect.getmembers(errors, inspect.isclass)}
        listed = [name for names in FIELDS.values() for name in names]
        self.assertEqual(here, set(BASES) | set(listed))
        self.assertEqual(len(listed), 29)

    def test_each_class_is_defined_in_this_file(self):
        for name, made in inspect.getmembers(errors, inspect.isclass):
            self.assertEqual(made.__module__, "everyzone.errors", name)

    def test_caught_by_base_and_by_the_error_of_python(self):
        for made, base, field in all_classes():
            for caught in (made, base, base.__bases__[0]):
                with self.assertRaises(caught):
                    raise made(*([1] if field else []))

    def test_bases_do_not_catch_one_another(self):
        for made, base, field in all_classes():
            for name in BASES:
                other = getattr(errors, name)
                self.assertEqual(issubclass(made, other), other is base, made)


class Fields(unittest.TestCase):
    def values(self):
        """Values of every sort, also ones that the functions would refuse or accept."""
        deep = [[[[[1, "a"]]]]]
        return [None, True, False, 0, -1, 10 ** 29, "", "a name", (), (1, 2), [], deep, {}, {"a": [1]},
                errors.NoProgram(), object()]

    def test_fields_by_position_keep_the_very_object(self):
        for made, base, field in all_classes():
            if field:
                for value in self.values():
                    self.assertIs(getattr(made(value), field), value, made)

    def test_fields_by_name_keep_the_very_object(self):
        for made, base, field in all_classes():
            if field:
                for value in self.values():
                    self.assertIs(getattr(made(**{field: value}), field), value, made)

    def test_a_field_is_each_object_s_own(self):
        for made, base, field in all_classes():
            if field:
                one, other = made([1]), made([1])
                self.assertIsNot(getattr(one, field), getattr(other, field))
                self.assertEqual(list(vars(one)), [field])

    def test_classes_without_fields_take_no_arguments(self):
        for made in (errors.NoProgram, errors.NothingToUndo):
            self.assertEqual(vars(made()), {})
            self.assertEqual(made().args, ())

    def test_one_argument_for_the_field_is_needed(self):
        for made, base, field in all_classes():
            if field:
                self.assertEqual(list(inspect.signature(made).parameters), [field])
                for wrong in ((), (1, 2)):
                    with self.assertRaises(TypeError):
                        made(*wrong)

    def test_errors_equal_only_themselves(self):
        one = errors.InvalidPart(1)
        self.assertEqual(one, one)
        self.assertNotEqual(one, errors.InvalidPart(1))


if __name__ == "__main__":
    unittest.main()
