"""Allreadings: exactly what all readings allow, at every moment, with papers."""
