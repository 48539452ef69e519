"""Tautcord: a cord with beads, its tones, and the cord found back."""
