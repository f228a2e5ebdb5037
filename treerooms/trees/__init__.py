"""The tree of the places of a web, and how words move it."""
