"""Clauses from which plain following finds all."""
