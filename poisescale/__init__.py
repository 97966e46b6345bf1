"""Poisescale: whole numbers told by weights in two pans."""
