"""A field of crevasses: what may lie hidden, and what is surely firm."""
