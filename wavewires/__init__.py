"""Wavewires: circuits of wires that are both at once, reckoned exactly."""
