"""The tests of treerooms."""
