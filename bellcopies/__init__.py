"""Bellcopies: who says whose sign when bells let people take over from others."""
