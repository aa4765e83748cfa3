"""Steps, growths, papers, and ties that can be spared."""
