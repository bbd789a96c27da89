"""Panfalls: grains that fall to the lighter pan."""
