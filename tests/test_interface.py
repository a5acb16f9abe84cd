"""The interface: each name is there, in its module, with its arguments."""

import importlib
import inspect
import unittest

FUNCTIONS = {
    "masks": ["is_whole(thing)", "mask_of(keepers)", "keepers_of(mask)"],
    "rules": [
        "is_rule(thing)", "named(rule)", "fills(rule, mask)", "paper_of(rule, mask)", "reads(rule, mask, told, tree)",
        "least_masks(rule)",
    ],
    "halls": [
        "parting(asking, keeping)", "make_hall(asking, keeping)", "is_hall(thing)", "members_of(hall)",
        "works(hall, living)", "stoppers(hall)",
    ],
    "slates": [
        "blank()", "cell_of(slate, name)", "with_cell(slate, name, n)", "doing_of(slate, asker)",
        "with_doing(slate, asker, number, answer)", "with_lease(slate, fence, tenant)", "with_shut(slate, shut)",
        "opened(slate)",
    ],
    "deeds": ["is_name(thing)", "is_number(thing)", "is_fence(thing)", "is_deed(thing)"],
    "doing": ["outcome_of(slate, asker, deed)", "done_on(slate, asker, number, deed)", "along(slate, rows)"],
    "letters": [
        "ask_letter(asker, keeper, epoch, stamp)", "tell_letter(asker, keeper, epoch, stamp, load)",
        "answer_to(letter, word, load)", "goes_to_keeper(letter)",
    ],
    "keepers": ["page_of(book, epoch)", "with_page(book, epoch, promised, kept, slate)", "heard(book, letter)"],
    "choosing": ["highest(grants, opening)", "all_alike(grants)", "granters(grants)"],
    "tellings": ["tellings(letters)", "kept_by(letters)", "chosen_in(letters, epoch, hall)"],
    "lines": ["way_to(links, epoch, stamp)", "cut_off(links)", "line_of(letters, hall)", "last_slate(links)"],
    "audit": ["does(links, place)", "audit(links, history)"],
    "clocks": ["wait_for(span, slow, fast)"],
    "quiet": ["attempt(house, asker, living, most)", "settle(house, asker, living, bells)"],
    "sums": ["sum_of(links, name)", "doers(links)"],
    "texts": [
        "show_rule(rule)", "show_hall(hall)", "read_rule(text)", "read_hall(text)", "read_number(text)",
        "read_fence(text)",
    ],
    "wishes": ["show_wish(deed)", "read_wish(text)"],
}

CLASSES = {
    ("askers", "Asker(me, hall)"): [
        "begin(deed=None)", "bell()", "hear(letter)", "outcome()", "number()", "stand()", "stamp()", "place()",
        "knows_over()",
    ],
    ("houses", "House(hall, askers)"): [
        "begin(asker, deed=None)", "bell(asker)", "bring(k)", "record()", "history()", "many()", "letter(k)",
        "book(keeper)", "outcome(asker)", "stand(asker)", "place(asker)", "knows_over(asker)",
    ],
    ("tenants", "Tenant(me, span, slow, fast)"): [
        "began(deed, time)", "ended(outcome, time)", "wish(time)", "believes(time)", "seen()", "holds()",
    ],
    ("lodgings", "Lodging(hall, askers, span, slow, fast)"): [
        "tick(moves)", "wish(asker)", "begin(asker, deed=None)", "bell(asker)", "bring(k)", "clock(asker)",
        "believers()", "record()", "history()", "many()", "letter(k)", "outcome(asker)", "stand(asker)",
        "tenant_wish(asker)",
    ],
    ("desk", "Desk(text, askers)"): ["say(row)"],
}


def shown(call, name):
    """Tell the call's name and arguments, without the object of a method."""
    parts = inspect.signature(call)
    kept = [part for part in parts.parameters.values() if part.name != "self"]
    return name + str(parts.replace(parameters=kept))


class InterfaceTest(unittest.TestCase):

    def test_functions(self):
        for module, rows in FUNCTIONS.items():
            found = importlib.import_module("oneslate." + module)
            for row in rows:
                name = row.partition("(")[0]
                self.assertEqual(shown(getattr(found, name), name), row)

    def test_classes(self):
        for (module, made), rows in CLASSES.items():
            name = made.partition("(")[0]
            kind = getattr(importlib.import_module("oneslate." + module), name)
            self.assertEqual(shown(kind, name), made)
            for row in rows:
                method = row.partition("(")[0]
                self.assertEqual(shown(getattr(kind, method), method), row)


if __name__ == "__main__":
    unittest.main()
