"""Texts of papers, and the shell."""
