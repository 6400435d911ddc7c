"""Stavemill: notes as they are played made into a written page, and back."""
