"""Actors that plan: each finds its shortest plan by what it believes."""
