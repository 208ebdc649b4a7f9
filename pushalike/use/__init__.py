"""What is built upon papers: wishes, parts and chains."""
