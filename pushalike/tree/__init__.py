"""Pipelines and the trees that they are written as."""
