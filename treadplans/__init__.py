"""Treadplans: all cloths that a plan of threading and a plan of treadling can weave."""
