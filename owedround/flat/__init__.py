"""What tells a drawing from other tables."""
