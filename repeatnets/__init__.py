"""Repeatnets: nets repeated in all directions."""
