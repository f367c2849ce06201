"""A store of green coffee and its trace: see greentrace.stores.answers."""
