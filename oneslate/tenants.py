"""A tenant: what it has seen of the lease, what it holds, and what it wishes."""

from oneslate.clocks import wait_for
from oneslate.slates import lease_of


class Tenant:
    """An asker's knowledge of the lease, from its own ended wishes and its own clock."""

    def __init__(self, me, span, slow, fast):
        self.me = me
        self.span = span
        self.wait = wait_for(span, slow, fast)
        self.begun_deed = None
        self.begun_time = 0
        self.last_seen = None
        self.held = None

    def began(self, deed, time):
        """Be told that a wish of its own began."""
        self.begun_deed = deed
        self.begun_time = time
        # From here on the lease may be freed, whenever the tenant is told of it.
        if self.begun_word() == "free":
            self.held = None

    def ended(self, outcome, time):
        """Be told that the wish that began last ended."""
        if outcome[0] == "saw":
            self.see(lease_of(outcome[1][2]), time)
        elif outcome[0] == "did" and self.begun_word() in ("take", "renew", "free"):
            self.hear_answer(outcome[1], time)

    def wish(self, time):
        """Tell the deed that it wishes at that time, or None, a glance."""
        if self.last_seen is None:
            return None
        fence = self.last_seen[0]
        tenant = self.last_seen[1]
        if tenant == self.me:
            return ("renew", fence)
        if tenant is None or time - self.last_seen[2] >= self.wait:
            return ("take", fence)
        return None

    def believes(self, time):
        """Tell whether it believes at that time that the lease is its own."""
        return self.held is not None and time - self.held[1] < self.span

    def seen(self):
        """Tell None, or what it has seen: (fence, tenant, time)."""
        return self.last_seen

    def holds(self):
        """Tell None, or what it holds: (fence, since)."""
        return self.held

    def begun_word(self):
        """Tell the word of the deed that began last, or None for a glance."""
        if self.begun_deed is None:
            return None
        return self.begun_deed[0]

    def hear_answer(self, answer, time):
        """Hear the answer (done, fence, tenant) of a take, renew or free."""
        self.see(answer[1:], time)
        if answer[0] == 1 and self.begun_word() != "free":
            # Since the begin: nobody can have seen this fence before then.
            self.held = (answer[1], self.begun_time)

    def see(self, lease, time):
        """See a lease; one of the same fence as before keeps its time."""
        if self.last_seen is not None and self.last_seen[0] == lease[0]:
            time = self.last_seen[2]
        self.last_seen = (lease[0], lease[1], time)
        if lease[1] != self.me:
            self.held = None
