"""A bench, on which webs are worked on."""
