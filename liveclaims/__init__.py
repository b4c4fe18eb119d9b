"""Papers whose numbers and claims follow from their rows."""
