"""Ordermerge: merging independent reorderings of a list without conflicts."""
