"""Beads that wake and take the length of their retinue as their strength."""
