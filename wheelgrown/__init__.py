"""Webs that no two places part, each grown from a wheel."""
