"""The ties of a web, leaning to one of their places each, and debts that are broken up by them."""
