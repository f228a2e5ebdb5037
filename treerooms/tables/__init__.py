"""Tables of four integers."""
