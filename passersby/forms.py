"""Forms: numbers that go with the hands in rooms and with the hands of sorts [23]."""

from passersby.kinds import is_tuple_of
from passersby.kinds import is_within

GREATEST = 1000000000000000


def is_form(rooms, sorts, thing):
    """Whether it is a form (number, ins, ofs) of so many rooms and sorts."""
    if not is_tuple_of(thing, 3) or not is_bounded(thing[0]):
        return False
    return are_bounded(rooms, thing[1]) and are_bounded(sorts, thing[2])


def is_bounded(thing):
    """Whether it is a whole number that is not too great, nor too far below 0."""
    return is_within(thing, -GREATEST, GREATEST)


def are_bounded(many, thing):
    """Whether it is a tuple of so many such numbers."""
    return is_tuple_of(thing, many) and all([is_bounded(number) for number in thing])


def value_at(form, crowd, counts):
    """The value of a form at a crowd and a beginning."""
    value = form[0]
    for times, many in zip(form[1], crowd):
        value += times * many
    for times, many in zip(form[2], counts):
        value += times * many
    return value


def change_by(form, meeting):
    """What a meeting adds to the value of a form."""
    ins = form[1]
    return ins[meeting[2]] + ins[meeting[3]] - ins[meeting[0]] - ins[meeting[1]]


def moved(form, meeting):
    """The form whose value is that of the given one behind the meeting."""
    return plus(form, change_by(form, meeting))


def plus(form, number):
    """A form with a number added."""
    return (form[0] + number, form[1], form[2])


def summed(one, other, times):
    """A form with another one, so many times, added."""
    ins = [here + times * there for here, there in zip(one[1], other[1])]
    ofs = [here + times * there for here, there in zip(one[2], other[2])]
    return (one[0] + times * other[0], tuple(ins), tuple(ofs))


def nought(rooms, sorts):
    """The form that is 0 everywhere."""
    return (0, (0,) * rooms, (0,) * sorts)


def unit(rooms, sorts, room):
    """The form of the hands in a room."""
    return (0, tuple([1 if here == room else 0 for here in range(rooms)]), (0,) * sorts)


def against(form):
    """The form whose value is the given one's, taken from 0."""
    return summed(nought(len(form[1]), len(form[2])), form, -1)
