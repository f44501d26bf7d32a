"""A world told in sentences."""
