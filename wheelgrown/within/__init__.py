"""Webs within webs."""
