"""A lodging: a house whose askers are tenants, with clocks of their own."""

from oneslate.deeds import is_deed
from oneslate.errors import NoTick, NoWish
from oneslate.houses import House
from oneslate.letters import goes_to_keeper
from oneslate.masks import is_whole
from oneslate.tenants import Tenant


class Lodging:
    """A house, a tenant for each of its askers, and their clocks."""

    def __init__(self, hall, askers, span, slow, fast):
        self.house = House(hall, askers)
        self.tenants = [Tenant(me, span, slow, fast) for me in range(askers)]
        self.clocks = [0 for me in range(askers)]
        self.slow = slow
        self.fast = fast

    def tick(self, moves):
        """Let each clock go on by its ticks."""
        if len(moves) != len(self.clocks) or not all([self.is_move(move) for move in moves]):
            raise NoTick("one whole number from slow to fast for each asker")
        self.clocks = [clock + move for clock, move in zip(self.clocks, moves)]

    def wish(self, asker):
        """Begin the tenant's wish; tell the numbers of the letters written."""
        return self.begin_told(asker, self.tenant_wish(asker))

    def begin(self, asker, deed=None):
        """Begin the asker's wish, but no take or renew; tell the numbers of the letters written."""
        # Asked for its refusal alone, which stands ahead of the others.
        self.house.stand(asker)
        if is_deed(deed) and deed[0] in ("take", "renew"):
            raise NoWish("take and renew are begun by the tenant's wish alone")
        return self.begin_told(asker, deed)

    def bell(self, asker):
        """Ring the asker's bell; tell the numbers of the letters written."""
        return self.house.bell(asker)

    def bring(self, k):
        """Bring the letter of that number; tell the numbers of the letters written."""
        letter = self.house.letter(k)
        if goes_to_keeper(letter):
            return self.house.bring(k)
        asker = letter[2]
        before = self.house.stand(asker)
        numbers = self.house.bring(k)
        if before != "calm" and self.house.stand(asker) == "calm":
            self.tenants[asker].ended(self.house.outcome(asker), self.clocks[asker])
        return numbers

    def clock(self, asker):
        """Tell the time of the asker's clock."""
        self.house.stand(asker)
        return self.clocks[asker]

    def believers(self):
        """Tell the askers who believe now, as a rising list."""
        return [me for me in range(len(self.tenants)) if self.tenants[me].believes(self.clocks[me])]

    def tenant_wish(self, asker):
        """Tell what the tenant's wish would be now."""
        time = self.clock(asker)
        return self.tenants[asker].wish(time)

    def record(self):
        """Tell all letters written, as a list."""
        return self.house.record()

    def history(self):
        """Tell all begins and ends, as a list."""
        return self.house.history()

    def many(self):
        """Tell how many letters the record has."""
        return self.house.many()

    def letter(self, k):
        """Tell the letter of that number."""
        return self.house.letter(k)

    def outcome(self, asker):
        """Tell the outcome of the asker's last wish, or None."""
        return self.house.outcome(asker)

    def stand(self, asker):
        """Tell how the asker stands."""
        return self.house.stand(asker)

    def is_move(self, thing):
        """Tell whether the thing, anything, is a clock's move in one turn."""
        return is_whole(thing) and self.slow <= thing <= self.fast

    def begin_told(self, asker, deed):
        """Begin the deed in the house, and tell the tenant of it."""
        numbers = self.house.begin(asker, deed)
        self.tenants[asker].began(deed, self.clocks[asker])
        return numbers
