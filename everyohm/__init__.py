"""Everyohm: nets of switches, and what every world shows."""
