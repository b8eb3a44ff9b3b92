"""What the places of a web owe or have, and what they lend."""
