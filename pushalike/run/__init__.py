"""What pipelines do: their states, readings of tapes, and running ones."""
