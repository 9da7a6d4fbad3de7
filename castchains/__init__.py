"""Castchains: integer conversions one after another."""
