"""The tests of suitedpairs."""
