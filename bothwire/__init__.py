"""Bothwire: circuits whose wires carry nought and one at once, reckoned exactly."""
