"""Sign numbers, unit numbers and sum numbers [1.2], and the depth table of a clock [1.3]."""

from math import gcd

from hoursheets.clocks import divisors


def prime_divisors(m):
    """The ascending list of the prime numbers whose product is m, with repeats."""
    primes = []
    rest = m
    prime = 2
    while prime * prime <= rest:
        if rest % prime == 0:
            primes.append(prime)
            rest //= prime
        else:
            prime += 1
    if rest > 1:
        primes.append(rest)
    return primes


def sign_number(m):
    """1 or -1 as m has an even or odd number of prime divisors, 0 if one divides it twice."""
    primes = prime_divisors(m)
    if len(set(primes)) < len(primes):
        return 0
    return 1 if len(primes) % 2 == 0 else -1


def unit_number(m):
    """How many integers from 1 to m have no common divisor with m but 1."""
    many = m
    for prime in sorted(set(prime_divisors(m))):
        many = many // prime * (prime - 1)
    return many


def sum_number(m, a):
    """The sum of d times the sign number of m / d over all common divisors d of m and a."""
    rest = m // gcd(m, a)
    return sign_number(rest) * (unit_number(m) // unit_number(rest))


def depth_table(n):
    """The table of the sum numbers of n / d_j and d_i, for the divisors d_1 < .. < d_s of n."""
    depths = divisors(n)
    return tuple(tuple([sum_number(n // column, row) for column in depths]) for row in depths)
