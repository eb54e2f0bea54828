"""Woods: wishes kept as numbers, one number for each wish."""

from manymakes.errors import NoWish
from manymakes.masks import every, how_many, switch_mask, with_off, with_on


class Wood:
    """Wishes over n switches: 0 never holds, 1 always, any other number hangs on a switch."""

    def __init__(self, n):
        self.n = n
        # A mask is in itself the one form of a wish: so numbers are the same just where masks are.
        self.masks = [0, every(n)]
        self.numbers = {0: 0, every(n): 1}

    def of_mask(self, mask):
        """The number of the wish that holds in the settings of the mask."""
        if mask not in self.numbers:
            self.numbers[mask] = len(self.masks)
            self.masks.append(mask)
        return self.numbers[mask]

    def mask_of(self, number):
        """The settings in which the wish holds."""
        return self.masks[number]

    def chosen(self, k, on, off):
        """The wish that is the one called on where switch k is on, else the one called off."""
        switch = switch_mask(k, self.n)
        return self.of_mask((switch & self.masks[on]) | ((every(self.n) ^ switch) & self.masks[off]))

    def both(self, one, other):
        """The wish that holds where both do."""
        return self.of_mask(self.masks[one] & self.masks[other])

    def either(self, one, other):
        """The wish that holds where one of them does, or both do."""
        return self.of_mask(self.masks[one] | self.masks[other])

    def unlike(self, one, other):
        """The wish that holds where just one of them does."""
        return self.of_mask(self.masks[one] ^ self.masks[other])

    def turned(self, one):
        """The wish that holds where this one does not."""
        return self.of_mask(every(self.n) ^ self.masks[one])

    def branches(self, number):
        """The first switch on which the wish hangs, and its numbers with that switch on and off."""
        if number in (0, 1):
            raise NoWish("0 and 1 hang on no switch")
        mask = self.masks[number]
        k = first_switch(mask, self.n)
        return (k, self.of_mask(with_on(mask, k, self.n)), self.of_mask(with_off(mask, k, self.n)))

    def count(self, number):
        """In how many settings the wish holds."""
        return how_many(self.masks[number])


def first_switch(mask, n):
    """The first of n switches on which a mask that has some settings, but not all, hangs."""
    k = 0
    while k < n and with_on(mask, k, n) == with_off(mask, k, n):
        k = k + 1
    return k
