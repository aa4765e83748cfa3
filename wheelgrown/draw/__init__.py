"""Drawings of webs without crossings."""
