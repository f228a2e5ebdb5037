"""Treerooms: webs of finite rooms, and words that walk through them."""
