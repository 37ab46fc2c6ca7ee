"""The errors of the package: each stands directly under KinError and checks nothing."""


class KinError(ValueError):
    """The error above all errors of the package."""


class BadWorld(KinError):
    def __init__(self, index, what):
        self.index = index
        self.what = what


class BadOrder(KinError):
    def __init__(self):
        pass


class TooMany(KinError):
    def __init__(self, count):
        self.count = count


class NoClass(KinError):
    def __init__(self, cls):
        self.cls = cls


class NoField(KinError):
    def __init__(self, field):
        self.field = field


class BadText(KinError):
    def __init__(self, index):
        self.index = index


class BadLaying(KinError):
    def __init__(self, index):
        self.index = index


class BadSides(KinError):
    def __init__(self, index):
        self.index = index


class BrokenTie(KinError):
    def __init__(self, tie):
        self.tie = tie


class BadKinds(KinError):
    def __init__(self, index, what):
        self.index = index
        self.what = what


class NoKind(KinError):
    def __init__(self, kind):
        self.kind = kind


class BadGiven(KinError):
    def __init__(self, index):
        self.index = index


class NotKept(KinError):
    def __init__(self, cls, first, second, what):
        self.cls = cls
        self.first = first
        self.second = second
        self.what = what


class BadKindSides(KinError):
    def __init__(self, index):
        self.index = index


class BadJoins(KinError):
    def __init__(self, index):
        self.index = index


class BadRing(KinError):
    def __init__(self, what):
        self.what = what


class Unsafe(KinError):
    def __init__(self, ring):
        self.ring = ring


class SideClash(KinError):
    def __init__(self, first, second):
        self.first = first
        self.second = second


class NotLasting(KinError):
    def __init__(self, what, first, second):
        self.what = what
        self.first = first
        self.second = second


class BadHues(KinError):
    def __init__(self, index):
        self.index = index


class NotLine(KinError):
    def __init__(self, cls, first, second):
        self.cls = cls
        self.first = first
        self.second = second


class NoHue(KinError):
    def __init__(self, hue):
        self.hue = hue


class NoLadder(KinError):
    def __init__(self, cls):
        self.cls = cls


class BadLot(KinError):
    def __init__(self, index):
        self.index = index


class NotStretch(KinError):
    def __init__(self, cls, between):
        self.cls = cls
        self.between = between


class NoGap(KinError):
    def __init__(self, gap):
        self.gap = gap


class NotJoined(KinError):
    def __init__(self, one, other):
        self.one = one
        self.other = other


class BadWeights(KinError):
    def __init__(self, index):
        self.index = index


class BadFields(KinError):
    def __init__(self, index):
        self.index = index


class NotApart(KinError):
    def __init__(self, cls, cell):
        self.cls = cls
        self.cell = cell


class BadLink(KinError):
    def __init__(self, index):
        self.index = index


class NoLink(KinError):
    def __init__(self, cls, base):
        self.cls = cls
        self.base = base


class BadWay(KinError):
    def __init__(self, index):
        self.index = index


class BadStart(KinError):
    def __init__(self, at):
        self.at = at


class NoPart(KinError):
    def __init__(self, number):
        self.number = number


class BadName(KinError):
    def __init__(self, name):
        self.name = name


class NoMethod(KinError):
    def __init__(self, cls, name):
        self.cls = cls
        self.name = name


class TwoAnswers(KinError):
    def __init__(self, cls, name, a, b):
        self.cls = cls
        self.name = name
        self.a = a
        self.b = b


class NoEntry(KinError):
    def __init__(self, entry):
        self.entry = entry


class NotView(KinError):
    def __init__(self, view, cls):
        self.view = view
        self.cls = cls


class BadLets(KinError):
    def __init__(self, index):
        self.index = index


class BadProgram(KinError):
    def __init__(self, step, what):
        self.step = step
        self.what = what


class BadSetup(KinError):
    def __init__(self, what):
        self.what = what


class NotUnder(KinError):
    def __init__(self, cls):
        self.cls = cls


class BadAddress(KinError):
    def __init__(self, address):
        self.address = address


class BadValue(KinError):
    def __init__(self):
        pass


class BadRow(KinError):
    def __init__(self, place):
        self.place = place


class BadEdit(KinError):
    def __init__(self, what):
        self.what = what


class BadEdits(KinError):
    def __init__(self, index, what):
        self.index = index
        self.what = what


class NotClose(KinError):
    def __init__(self, cls, cell):
        self.cls = cls
        self.cell = cell


class BadGoals(KinError):
    def __init__(self, index):
        self.index = index


class BadPool(KinError):
    def __init__(self, index):
        self.index = index


class NothingMade(KinError):
    def __init__(self):
        pass
