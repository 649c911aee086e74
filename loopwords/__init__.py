"""Loopwords: words said of the boxes of a program, kept or broken."""
