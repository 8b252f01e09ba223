"""What an E is, and what it is worth: by names in programs, by slots in machines."""

MODULUS = 1000000007
SIGNS = ("+", "-", "*", "<", "=")
DEEPEST_TRIPLE = 3


def is_whole(one):
    return isinstance(one, int) and not isinstance(one, bool)


def is_number(one):
    return is_whole(one) and 0 <= one < MODULUS


def is_sign(one):
    return isinstance(one, str) and one in SIGNS


# is_name tells what may stand where a name stands: a word in programs, a slot in machines.
def is_formula(one, is_name):
    return is_formula_within(one, is_name, DEEPEST_TRIPLE)


def is_formula_within(one, is_name, deeper):
    if is_number(one) or is_name(one):
        return True
    # Asked ahead of looking inside, so that things nested without end are left alone.
    if deeper == 0 or not isinstance(one, tuple) or len(one) != 3 or not is_sign(one[0]):
        return False
    return is_formula_within(one[1], is_name, deeper - 1) and is_formula_within(one[2], is_name, deeper - 1)


def reckoned(sign, left, right):
    if sign == "+":
        return (left + right) % MODULUS
    if sign == "-":
        return (left - right) % MODULUS
    if sign == "*":
        return (left * right) % MODULUS
    if sign == "<":
        return 1 if left < right else 0
    return 1 if left == right else 0


def worth(one, held):
    if isinstance(one, str):
        return held[one]
    if isinstance(one, tuple):
        return reckoned(one[0], worth(one[1], held), worth(one[2], held))
    return one


def slot_worth(one, slots):
    if not isinstance(one, tuple):
        return one
    if one[0] == "slot":
        return slots[one[1]]
    return reckoned(one[0], slot_worth(one[1], slots), slot_worth(one[2], slots))
