"""Everymeets: rounds in which each team meets each other one just once."""
