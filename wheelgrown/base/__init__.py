"""Words, webs and wheels, on which all else rests."""
