"""Least costs: the tally within holes that costs least, and prices that show that it does."""

from suretrips.fillings import filled, is_within, no_filling, surpluses
from suretrips.helpers import Rooms, is_answer, is_integer, is_row
from suretrips.nets import roads_from, trip_error
from suretrips.tallies import tally_error


def cost_of(costs, counts):
    """The counts of all roads times their costs, together."""
    return sum([cost * count for cost, count in zip(costs, counts)])


def rests_of(roads, costs, prices):
    """The rest of each road by prices."""
    return [cost + prices[foot] - prices[head] for (foot, head), cost in zip(roads, costs)]


def cheapest_endless_trip(net, holes, costs):
    """A pair of the least cost of trips of roads without bound, and such a trip; (0, ()) if there is none."""
    many, roads = net
    best = {0: (0, ())}
    for place in range(many - 1):
        for road in roads_from(net, place):
            if place in best and holes[road][1] is None:
                cost, begin = best[place]
                found = (cost + costs[road], begin + (road,))
                head = roads[road][1]
                best[head] = min(found, best.get(head, found))
    return best.get(many - 1, (0, ()))


class Trade:
    """Counts within holes, and prices by which each road with a rest above 0 has its low, below 0 its high.

    In and out are one place here: so both have one price, and counts are a tally if they balance everywhere.
    """

    def __init__(self, net, holes, costs):
        many, roads = net
        self.ways = [(foot, head % (many - 1)) for foot, head in roads]
        self.holes = holes
        self.costs = costs
        self.prices = [0] * (many - 1)
        self.lower_prices()
        self.counts = [low for low, _ in holes]
        for road, rest in enumerate(rests_of(self.ways, costs, self.prices)):
            if rest < 0:
                self.counts[road] = holes[road][1]

    def lower_prices(self):
        """Lower the prices until no road without bound has a rest below 0."""
        for _ in range(len(self.prices)):
            for (foot, head), (_, high), cost in zip(self.ways, self.holes, self.costs):
                if high is None:
                    self.prices[head] = min(self.prices[head], self.prices[foot] + cost)

    def send(self):
        """Even out places along roads without rest; return the places where too much is left, and those in reach."""
        rests = rests_of(self.ways, self.costs, self.prices)
        rooms = Rooms(len(self.prices))
        endless = 1 + sum(self.counts)
        for (foot, head), (low, high), count, rest in zip(self.ways, self.holes, self.counts, rests):
            if rest == 0:
                rooms.link(foot, head, endless if high is None else high - count, count - low)
            else:
                rooms.link(foot, head, 0, 0)
        is_even = rooms.even(surpluses((len(self.prices), self.ways), self.counts))
        for road, rest in enumerate(rests):
            if rest == 0:
                self.counts[road] = self.holes[road][0] + rooms.left[2 * road + 1]
        return () if is_even else rooms.side()

    def change_prices(self, reached):
        """Make all places but those reached dearer, until one more road with room has no rest."""
        steps = []
        rests = rests_of(self.ways, self.costs, self.prices)
        for (foot, head), (low, high), count, rest in zip(self.ways, self.holes, self.counts, rests):
            if foot in reached and head not in reached and (high is None or count < high):
                steps.append(rest)
            if head in reached and foot not in reached and count > low:
                steps.append(-rest)
        step = min(steps)
        for place in range(len(self.prices)):
            if place not in reached:
                self.prices[place] += step

    def settle(self):
        """Make counts a tally."""
        reached = self.send()
        while reached:
            self.change_prices(reached)
            reached = self.send()


def least_cost(net, holes, costs):
    """The least cost of tallies within holes, such a tally, and prices; or None, a trip below 0 without end and ()."""
    # Unfit comes ahead of everything else.
    filled(net, holes)
    cost, trip = cheapest_endless_trip(net, holes, costs)
    if cost < 0:
        return (None, trip, ())
    trade = Trade(net, holes, costs)
    trade.settle()
    prices = [price - trade.prices[0] for price in trade.prices] + [0]
    return (cost_of(costs, trade.counts), tuple(trade.counts), tuple(prices))


def is_endless_bargain(net, holes, costs, value):
    """Whether value is a trip of roads without bound with a cost below 0."""
    if trip_error(net, value) is not None:
        return False
    return all([holes[road][1] is None for road in value]) and sum([costs[road] for road in value]) < 0


def is_prices(net, value):
    """Whether value is prices of net."""
    many, _ = net
    return is_row(value, many) and all([is_integer(price) for price in value]) and value[0] == value[-1] == 0


def count_fits(hole, count, rest):
    """Whether count is as rest tells: the low of hole where this is above 0, the high where it is below."""
    low, high = hole
    if rest > 0:
        return count == low
    return rest == 0 or count == high


def endless_error(net, holes, costs, trip, prices):
    """What is wrong with trip and prices as an answer without end; None if nothing is."""
    if not is_endless_bargain(net, holes, costs, trip):
        return "trip"
    if prices != ():
        return "prices"
    return None if no_filling(net, holes) is None else "holes"


def least_cost_error(net, holes, costs, value):
    """What is wrong with value as an answer of least_cost; None if nothing is."""
    if not is_answer(value):
        return "form"
    worth, second, third = value
    if worth is None:
        return endless_error(net, holes, costs, second, third)
    if tally_error(net, second) is not None or not is_within(holes, second):
        return "tally"
    if not is_prices(net, third):
        return "prices"
    for road, rest in enumerate(rests_of(net[1], costs, third)):
        if not count_fits(holes[road], second[road], rest):
            return ("road", road)
    return None if worth == cost_of(costs, second) else "worth"
