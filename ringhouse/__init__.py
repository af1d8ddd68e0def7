"""Ringhouse: whole numbers of a ring, ideals, primes, classes, units."""
