"""Texts of webs, steps, growths and papers, and a shell."""
