"""Numbers and lists of webs."""
