"""Orders of few things, and the sets that stand for them."""
