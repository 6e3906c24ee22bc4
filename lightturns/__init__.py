"""Keepers of lights, relieved by boat as weather lets."""
