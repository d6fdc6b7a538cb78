"""Markhall: things and their marks, the notions they make, and the fewest rules among marks."""
