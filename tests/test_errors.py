"""The classes of errors: where they stand, their words and their fields."""

import unittest

from aheadfold import errors

FIELDS = {
    "BadWeb": ("at",), "BadRoom": (), "BadArrow": (), "BadFold": (), "BadPart": (), "BadNaming": (),
    "BadWalk": ("at",), "BadBeat": (), "BadWindow": (), "BadTable": ("row",), "Apart": (),
    "TooMany": ("most",), "NotBack": (), "BadText": ("at",), "BadName": (), "Taken": (), "Full": (),
    "Wide": (), "Used": ("by",), "BadDeed": (), "Stopped": ("at", "kind"), "BadPage": ("row",),
}
LOST = {"NoWeb": ("name",), "NoReader": ("name",), "NoWalker": ("name",), "NoName": ("name",)}
WORTHS = {"at": 7, "row": (1, 2), "most": 600, "by": "abc", "kind": "BadWeb", "name": "xyz"}


class Errors(unittest.TestCase):
    def check_fields(self, kind, names):
        worths = {name: WORTHS[name] for name in names}
        for error in (kind(*worths.values()), kind(**worths)):
            self.assertEqual(error.word, kind.__name__)
            self.assertEqual({name: getattr(error, name) for name in names}, worths)
            self.assertTrue(str(error))

    def test_bases_stand_under_those_of_python(self):
        self.assertEqual(errors.FoldError.__bases__, (ValueError,))
        self.assertEqual(errors.Lost.__bases__, (LookupError,))
        self.assertEqual(errors.NothingLeft.__bases__, (IndexError,))
        for kind in (errors.FoldError, errors.Lost, errors.NothingLeft):
            self.assertEqual(kind().word, kind.__name__)
            self.assertEqual(list(vars(kind())), ["word"])

    def test_each_stands_under_its_base_and_no_other(self):
        for base, names in ((errors.FoldError, FIELDS), (errors.Lost, LOST)):
            for name in names:
                self.assertEqual(getattr(errors, name).__bases__, (base,))

    def test_words_and_fields(self):
        for told in (FIELDS, LOST):
            for name in told:
                self.check_fields(getattr(errors, name), told[name])

    def test_fields_are_all_needed_and_no_more(self):
        for told in (FIELDS, LOST):
            for name in told:
                kind = getattr(errors, name)
                worths = [WORTHS[field] for field in told[name]]
                self.assertEqual(set(vars(kind(*worths))), {"word", *told[name]})
                with self.assertRaises(TypeError):
                    kind(*worths, 0)
                if worths:
                    with self.assertRaises(TypeError):
                        kind()

    def test_nothing_else_is_listed(self):
        listed = {name for name, thing in vars(errors).items() if isinstance(thing, type)}
        self.assertEqual(listed, {*FIELDS, *LOST, "FoldError", "Lost", "NothingLeft"})

    def test_they_are_caught_by_their_bases(self):
        with self.assertRaises(ValueError):
            raise errors.TooMany(6)
        with self.assertRaises(LookupError):
            raise errors.NoWeb("a")
        with self.assertRaises(IndexError):
            raise errors.NothingLeft()
