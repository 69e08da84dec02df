"""Tables of other bowl sizes that go together with a faithful table."""

from mixlabels.errors import InvalidBowl, Refused
from mixlabels.forms import Form, form_of, form_table, renamed
from mixlabels.recipes import is_bowl
from mixlabels.tables import fits
from mixlabels.wheels import check_faithful, modulus_of, wheel_rows

SIZES = (2, 3, 4, 5)
PRIMES = (2, 3, 5)


def other_table(table, size):
    check_faithful(table)
    if not is_bowl(size):
        raise InvalidBowl(0)
    prime = common_prime(size, modulus_of(table))
    if prime is not None:
        raise Refused(prime)
    if not fits(size, table.labels):
        raise Refused(0)
    if size == table.k:
        return table
    form = form_of(table)
    names = []
    for wheel in wheel_rows(table):
        names.extend(wheel)
    return renamed(form_table(Form(size, form.sums, form.joins, form.maps)), names)


def common_prime(size, modulus):
    """The least prime number that divides a bowl size and the modulus, or None."""
    for prime in PRIMES:
        if size % prime == 0 and modulus % prime == 0:
            return prime
    return None


def table_sizes(table):
    check_faithful(table)
    modulus = modulus_of(table)
    return tuple([size for size in SIZES if common_prime(size, modulus) is None])
