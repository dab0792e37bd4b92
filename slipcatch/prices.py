"""Prices: by how few deeds a key is reached, and by how few a deed ends in some way.

The price of a stand (as tables.py tells of it) is the fewest deeds that are
begun from its deed's own beginning on, this one with them, till it is there.
"""

from slipcatch.tables import View, first_steps, front_key, least_table, next_steps


# Things at the least price that they were offered for. They are taken from
# the cheapest on; nothing that is offered later is as cheap as what was taken.
class Market:
    def __init__(self):
        self.prices = {}
        # Of each thing, what it came from when it was offered for its price.
        self.origins = {}
        self.stalls = {}
        # The prices that stalls have, from the greatest down to the least.
        self.pending = []

    def spot_for(self, price):
        low = 0
        high = len(self.pending)
        while low < high:
            middle = (low + high) // 2
            if self.pending[middle] > price:
                low = middle + 1
            else:
                high = middle
        return low

    def offer(self, thing, price, origin):
        if thing in self.prices and self.prices[thing] <= price:
            return
        self.prices[thing] = price
        self.origins[thing] = origin
        if price not in self.stalls:
            self.stalls[price] = []
            self.pending.insert(self.spot_for(price), price)
        self.stalls[price].append(thing)

    def take_cheapest(self):
        price = self.pending.pop()
        return [thing for thing in self.stalls.pop(price) if self.prices[thing] == price]


# The stands and the tuples (key, way) of a table, each with the stand and
# the way behind it that it came from, and the choices by which it did.
class Endings:
    def __init__(self, view, table):
        self.view = view
        self.market = Market()
        # What was taken from the market, by the key of the deed that is
        # begun at a stand, and that ends by a way.
        self.stands = {}
        self.ways = {}
        for key in table:
            self.stands[key] = []
            self.ways[key] = []
        for key in table:
            self.offer_steps(key, first_steps(view, key), 1, None, None)

    def offer_steps(self, key, steps, price, stand, way):
        for step in steps:
            thing = (key, step[2]) if step[1] is None else step[1]
            self.market.offer(thing, price, (step[0], stand, way))

    def go_on(self, stand, way):
        price = self.market.prices[stand] + self.market.prices[(stand[1], way)]
        self.offer_steps(stand[0], next_steps(self.view, stand, way), price, stand, way)

    def settle_stand(self, stand):
        self.stands[stand[1]].append(stand)
        for way in self.ways[stand[1]]:
            self.go_on(stand, way)

    def settle_way(self, key, way):
        self.ways[key].append(way)
        for stand in self.stands[key]:
            self.go_on(stand, way)


def endings_of(view, table):
    endings = Endings(view, table)
    while endings.market.pending:
        for thing in endings.market.take_cheapest():
            if len(thing) == 2:
                endings.settle_way(thing[0], thing[1])
            else:
                endings.settle_stand(thing)
    return endings


# The keys of a table, each with the stand that it came from.
def beginnings_of(view, table, endings):
    outward = {}
    for key in table:
        outward[key] = []
    for key in table:
        for stand in endings.stands[key]:
            outward[stand[0]].append(stand)
    market = Market()
    market.offer(front_key(view), 0, None)
    while market.pending:
        for key in market.take_cheapest():
            for stand in outward[key]:
                market.offer(stand[1], market.prices[key] + endings.market.prices[stand], stand)
    return market


# The least table, and what its keys and its ways cost and came from.
class Reckoning:
    def __init__(self, view):
        self.view = view
        self.table = least_table(view)
        endings = endings_of(view, self.table)
        self.endings = endings.market
        self.beginnings = beginnings_of(view, self.table, endings)

    def both_prices(self):
        of_keys = {}
        of_ways = {}
        for key, ways in self.table.items():
            of_keys[key] = self.beginnings.prices[key]
            for way in ways:
                of_ways[(key, way)] = self.endings.prices[(key, way)]
        return (of_keys, of_ways)

    # By which choices a deed comes to a stand, or ends by a way, from its
    # beginning on. From the last one back, and by a list of what is still to
    # be told: rooms may be called deep.
    def choices_to(self, thing):
        backwards = []
        waiting = [thing]
        while waiting:
            origin = self.endings.origins[waiting.pop()]
            stand = origin[1]
            backwards.extend(origin[0])
            if stand is not None:
                waiting.append(stand)
                waiting.append((stand[1], origin[2]))
        backwards.reverse()
        return backwards

    # By which choices a run comes to a key.
    def choices_ahead(self, key):
        stands = []
        stand = self.beginnings.origins[key]
        while stand is not None:
            stands.append(stand)
            stand = self.beginnings.origins[stand[0]]
        choices = []
        for passed in reversed(stands):
            choices.extend(self.choices_to(passed))
        return choices


def prices_of(house):
    return Reckoning(View(house, None)).both_prices()
