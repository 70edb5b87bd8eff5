"""Staircases of any number of landings, wired landing by landing."""
