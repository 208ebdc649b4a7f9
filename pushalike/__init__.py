"""Pushalike: pipelines over pushed events, compared for all inputs."""
