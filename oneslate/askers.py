"""An asker: what it knows, and the letters that it writes at what it hears."""

from oneslate.choosing import all_alike, granters, highest
from oneslate.deeds import is_deed
from oneslate.doing import done_on
from oneslate.errors import Busy, NoDeed, Over
from oneslate.halls import members_of
from oneslate.letters import ask_letter, tell_letter
from oneslate.masks import has_keeper, mask_of
from oneslate.rules import fills
from oneslate.slates import blank, doing_of, is_shut, opened, shut_of


class Asker:
    """One asker, with at most one wish under way."""

    def __init__(self, me, hall):
        self.me = me
        self.epoch = 0
        self.hall = hall
        self.opening = blank()
        self.over_known = False
        self.greatest_round = 0
        self.last_stamp = (0, 0)
        self.wishes = 0
        self.deed = None
        self.standing = "calm"
        self.last_outcome = None
        self.grants = []
        self.kept_mask = 0
        self.told_slate = None

    def begin(self, deed=None):
        """Begin a deed, or a glance (None); tell the letters written."""
        if deed is not None and not is_deed(deed):
            raise NoDeed("neither a deed nor None")
        if self.over_known:
            raise Over("the slate is over")
        if self.standing != "calm":
            raise Busy("a wish is under way")
        self.wishes = self.wishes + 1
        self.deed = deed
        self.last_outcome = None
        return self.ask_members()

    def bell(self):
        """Ask anew where a wish is under way; tell the letters written."""
        if self.standing == "calm":
            return []
        return self.ask_members()

    def hear(self, letter):
        """Hear a letter; tell the letters written."""
        if letter[2] != self.me:
            return []
        if letter[0] == "late":
            self.greatest_round = max(self.greatest_round, letter[5][0][0])
            return []
        if not self.is_for_now(letter):
            return []
        if letter[0] == "grant" and self.standing == "asking":
            return self.hear_grant(letter)
        if letter[0] == "kept" and self.standing == "telling":
            return self.hear_kept(letter)
        return []

    def outcome(self):
        """Tell the outcome of the last wish, or None where it is under way or none began."""
        return self.last_outcome

    def number(self):
        """Tell how many wishes began."""
        return self.wishes

    def stand(self):
        """Tell "calm", "asking" or "telling"."""
        return self.standing

    def stamp(self):
        """Tell the stamp that was taken last, or (0, 0)."""
        return self.last_stamp

    def place(self):
        """Tell (epoch, hall, opening)."""
        return (self.epoch, self.hall, self.opening)

    def knows_over(self):
        """Tell whether the asker knows that the slate is over."""
        return self.over_known

    def is_for_now(self, letter):
        """Tell whether the letter has the asker's own epoch and stamp, and comes from a member."""
        if letter[3] != self.epoch or letter[4] != self.last_stamp:
            return False
        return letter[1] in members_of(self.hall)

    def ask_members(self):
        """Take a new stamp and ask each member."""
        self.greatest_round = self.greatest_round + 1
        self.last_stamp = (self.greatest_round, self.me)
        self.standing = "asking"
        self.grants = []
        return [ask_letter(self.me, keeper, self.epoch, self.last_stamp) for keeper in members_of(self.hall)]

    def hear_grant(self, letter):
        """Count a grant; go on as soon as the granters fill the asking rule."""
        if has_keeper(granters(self.grants), letter[1]):
            return []
        self.grants.append((letter[1], letter[5][0], letter[5][1]))
        if not fills(self.hall[0], granters(self.grants)):
            return []
        return self.go_on(highest(self.grants, self.opening))

    def go_on(self, pair):
        """End a glance that needs no telling, else tell each member the wish done on the slate taken."""
        if self.deed is None and self.sees_at_once(pair[1]):
            self.end_wish(("saw", (self.epoch, pair[0], pair[1])))
            return []
        self.standing = "telling"
        self.kept_mask = 0
        self.told_slate = done_on(pair[1], self.me, self.wishes, self.deed)
        load = (pair[0], self.wishes, self.deed, self.told_slate)
        return [tell_letter(self.me, keeper, self.epoch, self.last_stamp, load) for keeper in members_of(self.hall)]

    def sees_at_once(self, slate):
        """Tell whether the grants alone show that the slate taken is the chosen one."""
        if is_shut(slate) or not all_alike(self.grants):
            return False
        return fills(self.hall[1], granters(self.grants))

    def hear_kept(self, letter):
        """Count a kept; the telling is chosen as soon as its keepers fill the keeping rule."""
        self.kept_mask = self.kept_mask | mask_of([letter[1]])
        if not fills(self.hall[1], self.kept_mask):
            return []
        self.end_where_told()
        shut = shut_of(self.told_slate)
        if shut is None:
            return []
        if shut == "over":
            self.learn_over()
            return []
        return self.go_over(shut)

    def end_where_told(self):
        """End the wish where the chosen slate shows its end."""
        slate = self.told_slate
        if self.deed is not None:
            doing = doing_of(slate, self.me)
            if doing[1] == self.wishes:
                self.end_wish(("did", doing[2]))
        elif not is_shut(slate):
            self.end_wish(("saw", (self.epoch, self.last_stamp, slate)))
        elif shut_of(slate) == "over":
            self.end_wish(("saw", (self.epoch, None, slate)))

    def learn_over(self):
        """Know that the slate is over; a deed that is still under way is on no line ever."""
        self.over_known = True
        if self.standing != "calm":
            self.end_wish(("over", None))

    def go_over(self, hall):
        """Go on in the next epoch, in the hall; ask there where the wish is still under way."""
        self.epoch = self.epoch + 1
        self.hall = hall
        self.opening = opened(self.told_slate)
        if self.standing == "calm":
            return []
        return self.ask_members()

    def end_wish(self, outcome):
        """End the wish."""
        self.standing = "calm"
        self.last_outcome = outcome
