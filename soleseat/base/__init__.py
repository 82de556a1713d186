"""Letters, the post, machines and halls."""
