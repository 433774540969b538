"""Plans of runs that show unknown tanks: which tanks, and by which roads."""

from everyohm.flickers import shown_by
from everyohm.groups import groups_of
from everyohm.responses import responses_of
from everyohm.roads import road_by
from everyohm.starts import readings_by
from everyohm.turning import begun_with, spread_from
from everyohm.values import joined_all


class Plan:
    """A tank that is to show the value that it did not hold, and the road that gives it this value.

    For that, the switches of the road must be closed, and all others in the
    tank's group whose position may be either must be open.
    """

    def __init__(self, tank, value, group, positions, road):
        self.tank = tank
        self.value = value
        self.group = group
        self.positions = positions
        self.root, self.road = road

    def wanted(self, net, switch, position):
        """Return the position that a switch must get from the one that it has."""
        _, _, _, left, right = net[2][switch]
        if left not in self.group and right not in self.group:
            return position
        if switch in self.road:
            return 1
        return 0 if self.positions[switch] == 2 else position


def plans_for(net, state, feeds):
    """Return a plan for each tank that a run of the turn is to show, in the sequence of the spread."""
    first = begun_with(state, feeds)
    groups = groups_to_show(net, state, feeds)
    plans = []
    positions, held = first
    while len(plans) < len(groups):
        positions = joined_all(positions, readings_by(net, held))
        behind = joined_all(held, responses_of(net, positions, held))
        for tank in groups:
            if held[tank] != 2 and behind[tank] == 2:
                value = 1 - held[tank]
                # With these positions, the values at the beginning give the same responses as those now.
                road = road_by(net, positions, first[1], value, tank)
                plans.append(Plan(tank, value, groups[tank], positions, road))
        held = behind
    return plans


def groups_to_show(net, state, feeds):
    """Return a dict with each tank that a run of the turn is to show, and its group."""
    shown = shown_by(net, state, feeds)
    middle = spread_from(net, begun_with(state, feeds))[1]
    found = {}
    for group in groups_of(net):
        moving = [tank for tank in group if state[1][tank] != 2 and middle[tank] == 2]
        picked = [tank for tank in moving if tank in shown] or moving
        if picked != []:
            found[picked[0]] = group
    return found
