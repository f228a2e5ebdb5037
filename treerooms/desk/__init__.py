"""A desk of words by names, and sayings that stay true there."""
