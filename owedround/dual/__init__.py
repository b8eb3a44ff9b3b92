"""The other web that a drawing has."""
