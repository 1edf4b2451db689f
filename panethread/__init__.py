"""Panethread: all threads of two rows at once, by lines that never cross twice."""
