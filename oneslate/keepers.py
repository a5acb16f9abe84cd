"""A keeper's book, a tuple of pages (epoch, promised, kept, slate), and what it answers."""

from oneslate.letters import answer_to


def page_of(book, epoch):
    """Tell the epoch's page as (promised, kept, slate), also where the keeper never heard of the epoch."""
    for page in book:
        if page[0] == epoch:
            return page[1:]
    return ((0, 0), (0, 0), None)


def with_page(book, epoch, promised, kept, slate):
    """Tell the book in which the epoch's page is the one told."""
    pages = [page for page in book if page[0] != epoch]
    pages.append((epoch, promised, kept, slate))
    return tuple(sorted(pages, key=lambda page: page[0]))


def late(book, letter, promised):
    """Tell the book as it is, and the answer to a letter below the promised stamp."""
    return (book, answer_to(letter, "late", (promised,)))


def heard_ask(book, letter):
    """Tell the book behind the ask, and the answer."""
    stamp = letter[4]
    page = page_of(book, letter[3])
    if stamp <= page[0]:
        return late(book, letter, page[0])
    return (with_page(book, letter[3], stamp, page[1], page[2]), answer_to(letter, "grant", page[1:]))


def heard_tell(book, letter):
    """Tell the book behind the tell, and the answer."""
    stamp = letter[4]
    promised = page_of(book, letter[3])[0]
    if stamp < promised:
        return late(book, letter, promised)
    return (with_page(book, letter[3], stamp, stamp, letter[5][3]), answer_to(letter, "kept", ()))


def heard(book, letter):
    """Tell the book behind the ask or tell, and the answer, as a tuple."""
    if letter[0] == "ask":
        return heard_ask(book, letter)
    return heard_tell(book, letter)
