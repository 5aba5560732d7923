"""Onelook: a sheet whose cells are looked at once."""
