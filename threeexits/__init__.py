"""Threeexits: drawing by straight strokes."""
