"""The trees that join a web."""
