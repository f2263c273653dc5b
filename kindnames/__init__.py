"""Kindnames: right names of kinds, from pages."""
