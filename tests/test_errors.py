import unittest

from signedpacts import errors
from signedpacts.errors import HouseError

WITH_ONE_FIELD = {
    "BadAmount": "value", "BadBit": "bit", "BadClause": "label", "BadCount": "value", "BadDays": "at",
    "BadDeed": "number", "BadEnd": "end", "BadEvent": "at", "BadFate": "at", "BadLetters": "letters",
    "BadLine": "number", "BadMark": "mark", "BadMove": "value", "BadName": "at", "BadNeed": "field",
    "BadPair": "pair", "BadPaper": "number", "BadPart": "value", "BadParty": "party", "BadRow": "state",
    "BadRule": "number", "BadState": "state", "BadStep": "at", "BadText": "at", "BadWait": "mark",
    "BadWidth": "width", "Hopeless": "least", "Missing": "label", "NameTaken": "name", "NeverSeen": "view",
    "NoAnswer": "number", "NoDebt": "pair", "NoPact": "name", "NoPurse": "party", "NoSum": "name",
    "NotUpheld": "number", "OutOfChain": "position", "SameLabel": "label", "ShortPurse": "party",
    "UnknownLabel": "label", "UnknownName": "name",
}
WITHOUT_FIELDS = [
    "CannotDecide", "CannotKeep", "LettersDiffer", "NoChain", "NoMoves", "NotAllowed", "NothingToRedo",
    "NothingToUndo", "PlayOver", "Unmatched", "WrongTurn",
]


class Errors(unittest.TestCase):
    def test_one_field_is_kept_unchanged(self):
        for name, field in WITH_ONE_FIELD.items():
            for value in (0, -1, None, "x", [1, [2]], ("a", 1)):
                error = getattr(errors, name)(value)
                self.assertIs(getattr(error, field), value, name)

    def test_two_fields_are_kept_unchanged(self):
        error = errors.TooLarge(401, [31])
        self.assertEqual((error.weight, error.depth), (401, [31]))

    def test_errors_without_fields(self):
        for name in WITHOUT_FIELDS:
            self.assertIsInstance(getattr(errors, name)(), HouseError)

    def test_all_are_direct_subclasses(self):
        self.assertEqual(HouseError.__bases__, (ValueError,))
        for name in [*WITH_ONE_FIELD, *WITHOUT_FIELDS, "TooLarge"]:
            kind = getattr(errors, name)
            self.assertEqual(kind.__bases__, (HouseError,), name)
            self.assertEqual(kind.__module__, "signedpacts.errors")

    def test_none_is_a_subclass_of_another_one(self):
        kinds = [getattr(errors, name) for name in [*WITH_ONE_FIELD, *WITHOUT_FIELDS, "TooLarge"]]
        self.assertEqual(len(set(kinds)), 53)
        for one in kinds:
            for other in kinds:
                self.assertEqual(issubclass(one, other), one is other)

    def test_they_can_be_raised_and_caught(self):
        with self.assertRaises(ValueError) as caught:
            raise errors.BadWidth(3)
        self.assertEqual(caught.exception.width, 3)
        with self.assertRaises(HouseError):
            raise errors.LettersDiffer()
