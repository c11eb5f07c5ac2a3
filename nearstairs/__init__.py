"""Nearstairs: small near rooms and greater far ones."""
