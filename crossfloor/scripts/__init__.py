"""Effects of moves, and scripts with repeat counts."""
