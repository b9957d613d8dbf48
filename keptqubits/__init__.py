"""Keptqubits: stored quantum bits that come back."""
