"""Whenrows: tables whose rows hold for stretches of time."""
