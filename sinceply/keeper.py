"""A keeper of a net: ties come, older ones are forgotten, nets are laid to it, and each deed can be taken back."""

from sinceply.errors import NoDeed, NoTies
from sinceply.kinds import is_moment, look_at_layers, look_at_places
from sinceply.laying import laid, net_come
from sinceply.moves import moves
from sinceply.nets import net_since


class Keeper:
    def __init__(self, n, k):
        look_at_places(n)
        look_at_layers(k)
        self.held = (n, k, [])
        self.moment = 0
        # What was held ahead of each deed that isn't taken back, with its moment.
        self.past = []

    def come(self, tie):
        before = self.held
        # Asked first, as what is no tie is refused even where it would be let go.
        after = net_come(before, tie)
        if tie[0] < self.moment or tie in before[2]:
            self.keep(before, self.moment)
            return []
        self.keep(after, self.moment)
        return moves(before[0], before[2], before[1], tie)

    def forget(self, t):
        if not is_moment(t):
            raise NoTies()
        moment = max(self.moment, t)
        self.keep(net_since(self.held, moment), moment)

    def lay(self, net):
        self.keep(laid(self.held, net_since(net, self.moment)), self.moment)

    def back(self):
        if len(self.past) == 0:
            raise NoDeed()
        state = self.past.pop()
        self.held = state[0]
        self.moment = state[1]

    def net(self):
        return (self.held[0], self.held[1], list(self.held[2]))

    def keep(self, net, moment):
        self.past.append((self.held, self.moment))
        self.held = net
        self.moment = moment
