"""The errors, [98]."""

from chainpapers import errors, texterrors
from tests.support import Case

PLAIN_ERRORS = """InvalidWord InvalidName InvalidSubtree InvalidNumber InvalidRow InvalidCertificate InvalidPart
InvalidList InvalidAnchor InvalidStore InvalidQuestion InvalidValue InvalidChange BadSeal InvalidRegion
InvalidConstraints InvalidChain InvalidUses InvalidPurposes InvalidTimes InvalidLimits InvalidNumbers InvalidPath
InvalidState InvalidPolicies InvalidPolicy InvalidTruth InvalidSealers InvalidDelta InvalidHistory InvalidTargets
InvalidTime""".split()

TEXT_ERRORS = ["InvalidText", "InvalidSort", "InvalidSteps", "IsThere", "NotThere", "NothingToUndo", "NothingToRedo"]


class Errors(Case):
    def test_base_is_a_value_error(self):
        self.assertEqual(errors.ChainError.__bases__, (ValueError,))

    def test_all_are_direct_subclasses_defined_there(self):
        for name in PLAIN_ERRORS + ["TooMany", "BadRow"]:
            error = getattr(errors, name)
            self.assertEqual((error.__bases__, error.__module__), ((errors.ChainError,), "chainpapers.errors"))

    def test_each_plain_one_is_its_own(self):
        self.assertEqual(len({getattr(errors, name) for name in PLAIN_ERRORS}), 32)
        for name in PLAIN_ERRORS:
            self.assertIsInstance(getattr(errors, name)("words"), errors.ChainError)

    def test_attributes_are_what_they_were_made_with(self):
        self.assertEqual(errors.TooMany(20000).limit, 20000)
        self.assertEqual(errors.BadRow(0).at, 0)
        self.assertEqual((errors.TooMany(None).limit, errors.BadRow("x").at), (None, "x"))

    def test_errors_of_texts(self):
        for name in TEXT_ERRORS + ["BadText"]:
            error = getattr(texterrors, name)
            self.assertEqual((error.__bases__, error.__module__), ((errors.ChainError,), "chainpapers.texterrors"))
        self.assertEqual(len({getattr(texterrors, name) for name in TEXT_ERRORS}), 7)
        for name in TEXT_ERRORS:
            self.assertIsInstance(getattr(texterrors, name)("words"), errors.ChainError)
        self.assertEqual((texterrors.BadText(7).place, texterrors.BadText(None).place), (7, None))
