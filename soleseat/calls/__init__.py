"""A called key: the key goes on by its line, and is made anew behind a fall."""
