"""Trees by which keys are sought, by how often each is."""
