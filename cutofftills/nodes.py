"""Nodes of walks by their marks: tuples (lefts, todays), as papers of walks tell them."""

from cutofftills.moves import with_item


def first_marks(outages):
    """The marks with which walks begin; None is left where something can be paid later."""
    lefts = tuple([None if outage is not None and outage > 0 else 0 for outage in outages])
    return lefts, (False,) * len(outages)


def can_be_paid(outages, time, lefts, area):
    """Whether a part that begins at a time may be paid in an area whose outage has an end."""
    outage = outages[area]
    return outage is not None and -outage <= time < outage and lefts[area] != 0


def days_that_go_on(chart, phase, time):
    """For each area whether its day of a time goes on in the part behind it."""
    return [chart.day(area, phase, time) == chart.day(area, phase, time + 1) for area in range(len(chart.areas))]


def paid_marks(outages, time, marks, area):
    """The marks when an area is paid in the part that begins at a time."""
    lefts, todays = marks
    if lefts[area] is None:
        outage = outages[area]
        lefts = with_item(lefts, area, outage if time < 0 else outage - time)
    return lefts, with_item(todays, area, True)


def marks_behind(outages, time, going, marks):
    """The marks behind the part that begins at a time, whatever was paid in it being marked."""
    lefts, todays = marks
    behind = tuple([left_behind(left, outage, time + 1) for left, outage in zip(lefts, outages)])
    return behind, tuple([today and goes for today, goes in zip(todays, going)])


def left_behind(left, outage, time):
    """For how many parts an area may be paid at a time, one part later."""
    if left is None:
        return None if time < outage else 0
    return left - 1 if left > 0 else 0
