"""Dampfield: hidden stones told by counts."""
