"""Blowntrees: trees of spheres with weights."""
