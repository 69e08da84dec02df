"""What is the same in all mixtures of one sealing that are sure alike."""

from mixlabels.arithmetic import inverse, power, power_modulo, without_divisors
from mixlabels.diagonals import Diagonal
from mixlabels.likenesses import is_within, sealing
from mixlabels.mixtures import counts_at
from mixlabels.questions import weighed
from mixlabels.ratios import made


class Folding:
    """The marks of the mixtures within a sealed set that no told pair changes."""

    def __init__(self, told, some):
        self.k = told.k
        self.some = some
        self.indexes = [at for at, pair in enumerate(told.pairs) if is_within(pair[0], some)]
        pairs = [told.pairs[at] for at in self.indexes]
        self.depth = max([n for pair in pairs for n, _ in pair], default=0)
        columns = [self.change(one, other, self.depth) for one, other in pairs]
        rows = [[column[i] for column in columns] for i in range(len(some) - 1)]
        self.diagonal = Diagonal(rows, len(columns))
        # For each mark its modulus; 0 where it is no remainder.
        self.moduli = [without_divisors(self.k, number) for number in self.diagonal.numbers]
        self.moduli = self.moduli + [0] * (len(some) - 1 - len(self.moduli))

    def change(self, one, other, n):
        """That of the shares of all ingredients of the set but the first, times k ** n."""
        ahead, behind = counts_at(self.k, one, n), counts_at(self.k, other, n)
        return [ahead[i] - behind[i] for i in self.some[1:]]

    def marks(self, numbers, n):
        """Those of as many integers, divided by k ** n, as the set has ingredients behind its first one."""
        found = []
        for row, modulus in zip(self.diagonal.left, self.moduli):
            total = weighed(row, numbers)
            if modulus == 0:
                found.append(made(total, power(self.k, n)))
            else:
                found.append(total * power_modulo(inverse(self.k, modulus), n, modulus) % modulus)
        return tuple(found)

    def key(self, mixture):
        """The same for two mixtures within the set exactly if they differ by told pairs."""
        n, counts = mixture
        return self.marks([counts[i] for i in self.some[1:]], n)


def mixture_key(told, mixture):
    """The same for two mixtures exactly if they are sure alike."""
    some = sealing(told, mixture)
    return some, Folding(told, some).key(mixture)
