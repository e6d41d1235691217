"""Frames that stand and linkages that move."""
