"""Keptranges: kept answers of ranges."""
