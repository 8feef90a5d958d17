"""The errors of all ten parts.

No words of an error show its fields: an integer among them may have more digits
than Python writes, and then an error of another class would be raised.
"""


class BureauError(ValueError):
    """What all errors of the program are."""


class BadMarks(BureauError):
    def __init__(self, given):
        super().__init__("a character is not a mark")
        self.given = given


class BadRow(BureauError):
    def __init__(self, place):
        super().__init__("this is not a row that can stand here")
        self.place = place


class NoRow(BureauError):
    def __init__(self, place):
        super().__init__("there is no row at this place")
        self.place = place


class BadText(BureauError):
    def __init__(self, at):
        super().__init__("this line of the text cannot stand here")
        self.at = at


class BadFrac(BureauError):
    def __init__(self, given):
        super().__init__("this is not the text of a fraction")
        self.given = given


class ZeroBottom(BureauError):
    def __init__(self):
        super().__init__("a fraction is divided by 0")


class BadVector(BureauError):
    def __init__(self, size):
        super().__init__("the vector is of another size")
        self.size = size


class TooLarge(BureauError):
    def __init__(self, many):
        super().__init__("this is more than is allowed")
        self.many = many


class EmptyPage(BureauError):
    def __init__(self):
        super().__init__("a page needs a line")


class BadLine(BureauError):
    def __init__(self, at):
        super().__init__("this line cannot stand here")
        self.at = at


class Clash(BureauError):
    def __init__(self, first, second):
        super().__init__("two pages clash")
        self.first = first
        self.second = second


class BadOrder(BureauError):
    def __init__(self, at):
        super().__init__("this is not an order")
        self.at = at


class NoPage(BureauError):
    def __init__(self, number):
        super().__init__("there is no page of this number")
        self.number = number


class BadTerm(BureauError):
    def __init__(self, place):
        super().__init__("this is not a term")
        self.place = place


class BadManner(BureauError):
    def __init__(self, given):
        super().__init__("a keeper cannot have this manner")
        self.given = given


class BadStep(BureauError):
    def __init__(self, at):
        super().__init__("this is not a fill step")
        self.at = at


class NoMark(BureauError):
    def __init__(self, mark):
        super().__init__("this is not a mark")
        self.mark = mark


class BadAmount(BureauError):
    def __init__(self, mark, amount):
        super().__init__("a table cannot hold this count")
        self.mark = mark
        self.amount = amount


class BadDivisor(BureauError):
    def __init__(self):
        super().__init__("a formula is divided by 0")


class BadGrid(BureauError):
    def __init__(self, at):
        super().__init__("the grid is wrong here")
        self.at = at


class BadStore(BureauError):
    def __init__(self, given):
        super().__init__("the store does not fit the service")
        self.given = given


class BadRequest(BureauError):
    def __init__(self, place):
        super().__init__("this is not a request to the service")
        self.place = place


class BadPlan(BureauError):
    def __init__(self, option):
        super().__init__("a plan has no such option or value")
        self.option = option


class BadPromise(BureauError):
    def __init__(self, given):
        super().__init__("there is no such promise")
        self.given = given


class BadFactor(BureauError):
    def __init__(self, given):
        super().__init__("this factor is out of range")
        self.given = given


class BadFigure(BureauError):
    def __init__(self, given):
        super().__init__("this word cannot stand for a figure here")
        self.given = given


class NoStep(BureauError):
    def __init__(self, at):
        super().__init__("there is no step at this index")
        self.at = at


class NotStraight(BureauError):
    def __init__(self, at):
        super().__init__("the step at this index is not straight")
        self.at = at


class NotPlain(BureauError):
    def __init__(self, at):
        super().__init__("the step at this index is not plain")
        self.at = at


class NotFree(BureauError):
    def __init__(self, mark):
        super().__init__("this mark comes but has no unit book")
        self.mark = mark


class BadWay(BureauError):
    def __init__(self, given):
        super().__init__("there is no such way")
        self.given = given


class BadBounds(BureauError):
    def __init__(self, low, high):
        super().__init__("these are not bounds")
        self.low = low
        self.high = high


class NoName(BureauError):
    def __init__(self, name):
        super().__init__("nothing has this name")
        self.name = name


class SameName(BureauError):
    def __init__(self, name):
        super().__init__("something has this name already")
        self.name = name


class NoService(BureauError):
    def __init__(self, name):
        super().__init__("this account has no service")
        self.name = name


class ManyGaps(BureauError):
    def __init__(self, many):
        super().__init__("the order has more gaps than are allowed")
        self.many = many


class BadDay(BureauError):
    def __init__(self, given):
        super().__init__("this is not a day")
        self.given = given


class BadDeed(BureauError):
    def __init__(self, at):
        super().__init__("there is no such deed")
        self.at = at


class Refused(BureauError):
    def __init__(self, at):
        super().__init__("a deed was refused")
        self.at = at


class NothingToUndo(BureauError):
    def __init__(self):
        super().__init__("there is no deed to undo")


class Untrue(BureauError):
    def __init__(self, part, at):
        super().__init__("the paper does not hold")
        self.part = part
        self.at = at
