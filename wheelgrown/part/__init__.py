"""Partings, blocks, and ways apart."""
