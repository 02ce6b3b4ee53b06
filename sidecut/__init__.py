"""Sidecut: a cutter led beside a path, by fractions."""
