"""Cardsback: visits that must be paid back, by houses that part and join."""
