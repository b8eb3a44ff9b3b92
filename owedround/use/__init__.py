"""The parts of the package put to use together."""
