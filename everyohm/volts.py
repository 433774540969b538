"""The volts of a world, solved exactly."""

from everyohm.checks import require
from everyohm.meshes import weighed_mean
from everyohm.parts import parts_by
from everyohm.quotients import lowest, over_common
from everyohm.worldkinds import are_charges, are_flows, are_rooms


def volts_of(net, flows, rooms, charges):
    """Return the volts of a world with these flows, rooms and charges."""
    require_numbers(net, flows, rooms, charges)
    return solved_volts(net, flows, rooms, charges)


def require_numbers(net, flows, rooms, charges):
    """Raise NotUsable unless these are flows, rooms and charges of the net."""
    require(are_flows(net, flows), "flows")
    require(are_rooms(net, rooms), "rooms")
    require(are_charges(net, charges), "charges")


def solved_volts(net, flows, rooms, charges):
    """Return the volts, for arguments that are known to fit."""
    volts = list(charges)
    for tanks, feeds in parts_by(net, flows):
        for tank, volt in zip(tanks, part_volts(net, flows, rooms, charges, tanks, feeds)):
            volts[tank] = volt
    return tuple(volts)


def part_volts(net, flows, rooms, charges, tanks, feeds):
    """Return the volts of a part's tanks, in their sequence."""
    if feeds == ():
        return (mean_charge(net, rooms, charges, tanks),) * len(tanks)
    rows, scale = balance_rows(net, flows, charges, tanks, feeds)
    tops, bottom = solution(rows)
    return tuple(lowest(top, bottom * scale) for top in tops)


def mean_charge(net, rooms, charges, tanks):
    """Return the mean of the charges of tanks weighed by their rooms."""
    first = len(net[0])
    return weighed_mean([rooms[tank - first] for tank in tanks], [charges[tank] for tank in tanks])


def balance_rows(net, flows, charges, tanks, feeds):
    """Return a row of integers for each tank of a part, and the scale of the last column.

    The volts, each times its place in the row, come to the last number divided by the scale.
    """
    tops, scale = over_common([charges[feed] for feed in feeds])
    volt_at = dict(zip(feeds, tops))
    return [balance_row(net, flows, tanks, volt_at, tank) for tank in tanks], scale


def balance_row(net, flows, tanks, volt_at, tank):
    """Return the row that tells how the flows of a tank balance."""
    row = [0] * (len(tanks) + 1)
    for other, flow in whole_flows_at(net, flows, tank):
        row[tanks.index(tank)] += flow
        if other in volt_at:
            row[-1] += flow * volt_at[other]
        else:
            row[tanks.index(other)] -= flow
    return row


def whole_flows_at(net, flows, tank):
    """Return the ends across from a tank, each with its flow; all flows times one number."""
    ends = []
    shares = []
    for (_, _, _, left, right), flow in zip(net[2], flows):
        if tank in (left, right) and flow[0] > 0:
            ends.append(right if left == tank else left)
            shares.append(flow)
    tops, _ = over_common(shares)
    return list(zip(ends, tops))


def solution(rows):
    """Return the tops and the bottom of the numbers that solve the rows.

    All numbers stay integers: each is a determinant of some of the rows, so the
    divisions are exact. No divisor is nought, as a feed touches each part of
    which rows are made.
    """
    divisor = 1
    for place in range(len(rows)):
        row = rows[place]
        rows = [
            other if at == place else reduced(other, row, place, divisor)
            for at, other in enumerate(rows)
        ]
        divisor = row[place]
    return [row[-1] for row in rows], divisor


def reduced(other, row, place, divisor):
    """Return another row, times a number, with nought at the place of a row."""
    factor, share = row[place], other[place]
    return [(factor * top - share * less) // divisor for top, less in zip(other, row)]
