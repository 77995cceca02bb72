"""Suitedpairs: newcomers leave with the one who has waited longest."""
