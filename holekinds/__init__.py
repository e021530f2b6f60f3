"""Kinds of data by their holes: everything is made of a kind's description alone."""
