"""Threeswaps: moves of all integers, and how few exchanges make them."""
