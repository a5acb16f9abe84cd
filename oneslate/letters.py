"""Letters: tuples (word, by, to, epoch, stamp, load) between askers and keepers."""


def ask_letter(asker, keeper, epoch, stamp):
    """Tell the letter by which the asker asks the keeper."""
    return ("ask", asker, keeper, epoch, stamp, ())


def tell_letter(asker, keeper, epoch, stamp, load):
    """Tell the letter by which the asker tells the keeper (parent, number, deed, slate)."""
    return ("tell", asker, keeper, epoch, stamp, load)


def answer_to(letter, word, load):
    """Tell the letter that goes back to whom the letter came from."""
    return (word, letter[2], letter[1], letter[3], letter[4], load)


def goes_to_keeper(letter):
    """Tell whether the letter goes to a keeper, else it goes to an asker."""
    return letter[0] in ("ask", "tell")
