"""Changes of webs that keep the words, slides, and webs that are kin."""
