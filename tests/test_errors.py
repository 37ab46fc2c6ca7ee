"""[0.5]: each error with its attributes and its place."""

import unittest

from headamid import errors

LISTED = """BadWorld(index, what), BadOrder(), TooMany(count), NoClass(cls), NoField(field), BadText(index),
BadLaying(index), BadSides(index), BrokenTie(tie), BadKinds(index, what), NoKind(kind), BadGiven(index),
NotKept(cls, first, second, what), BadKindSides(index), BadJoins(index), BadRing(what), Unsafe(ring),
SideClash(first, second), NotLasting(what, first, second), BadHues(index), NotLine(cls, first, second), NoHue(hue),
NoLadder(cls), BadLot(index), NotStretch(cls, between), NoGap(gap), NotJoined(one, other), BadWeights(index),
BadFields(index), NotApart(cls, cell), BadLink(index), NoLink(cls, base), BadWay(index), BadStart(at), NoPart(number),
BadName(name), NoMethod(cls, name), TwoAnswers(cls, name, a, b), NoEntry(entry), NotView(view, cls), BadLets(index),
BadProgram(step, what), BadSetup(what), NotUnder(cls), BadAddress(address), BadValue(), BadRow(place), BadEdit(what),
BadEdits(index, what), NotClose(cls, cell), BadGoals(index), BadPool(index), NothingMade()"""


def listed_errors():
    """Each listed error's name with the names of its attributes."""
    rows = []
    for part in LISTED.replace("\n", " ").split("),"):
        name, names = part.strip().rstrip(")").split("(")
        rows.append((name, [word.strip() for word in names.split(",") if word.strip()]))
    return rows


class ErrorsTest(unittest.TestCase):
    def test_all_are_listed(self):
        listed = [name for name, _ in listed_errors()] + ["KinError"]
        defined = [name for name, thing in vars(errors).items() if isinstance(thing, type)]
        self.assertEqual(len(listed), 54)
        self.assertEqual(sorted(defined), sorted(listed))

    def test_places(self):
        self.assertEqual(errors.KinError.__bases__, (ValueError,))
        for name, _ in listed_errors():
            self.assertEqual(getattr(errors, name).__bases__, (errors.KinError,), name)

    def test_attributes_by_position(self):
        for name, names in listed_errors():
            things = [object() for _ in names]
            error = getattr(errors, name)(*things)
            self.assertEqual(list(vars(error).items()), list(zip(names, things)), name)

    def test_attributes_by_name(self):
        for name, names in listed_errors():
            things = {word: [word] for word in names}
            error = getattr(errors, name)(**things)
            for word in names:
                self.assertIs(getattr(error, word), things[word], name)

    def test_numbers_of_arguments(self):
        for name, names in listed_errors():
            with self.assertRaises(TypeError):
                getattr(errors, name)(*([0] * (len(names) + 1)))
            if names:
                with self.assertRaises(TypeError):
                    getattr(errors, name)(*([0] * (len(names) - 1)))

    def test_are_caught_as_value_errors(self):
        for name, names in listed_errors():
            with self.assertRaises(ValueError):
                raise getattr(errors, name)(*names)


if __name__ == "__main__":
    unittest.main()
