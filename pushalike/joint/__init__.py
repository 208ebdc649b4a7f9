"""Two pipelines side by side."""
