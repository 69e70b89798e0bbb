"""Signposts: places with roads one way and a sign at each that shows one of its roads, or none."""
