"""Copybooks: books of rules that keep copies of a line alike, for any number of caches."""
