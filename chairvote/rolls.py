"""Sets of hands, told as whole numbers, and rolls: whose word counts, and who wins."""


def set_of(hands):
    S = 0
    for hand in hands:
        S = S | (1 << hand)
    return S


def hands_of(S):
    return [hand for hand in range(S.bit_length()) if S & (1 << hand) != 0]


def many(S):
    return len(hands_of(S))


def members(roll):
    return roll[0] | roll[1]


def carries(S, part, half=False):
    # Both sides are doubled, so that half of an odd number is never rounded.
    twice = 2 * many(S & part)
    if half:
        return twice >= many(part)
    return twice > many(part)


def wins(roll, S, half=False):
    if not carries(S, roll[0], half):
        return False
    # The second set of a single roll is no part: without hands it could not be carried.
    return roll[1] == 0 or carries(S, roll[1], half)
