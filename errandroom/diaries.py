"""Diaries: whether their words of dos pair off like brackets."""


# The number of the first entry that does not fit, the count of entries where some do stays open, or None.
def unclosed(diary):
    # Pairs of a do's number and whether its undoing has begun, innermost last.
    open_dos = []
    for number, entry in enumerate(diary):
        word = entry[1]
        if word == "do":
            open_dos.append((entry[2], False))
        elif word != "tell":
            # done and undo want a do whose undoing has not begun, undone one whose undoing has.
            if open_dos[-1:] != [(entry[2], word == "undone")]:
                return number
            open_dos.pop()
            if word == "undo":
                open_dos.append((entry[2], True))
    return None if len(open_dos) == 0 else len(diary)
