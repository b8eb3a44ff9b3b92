"""Owedround: debts on a web, the trees that join it, and its table of turns."""
