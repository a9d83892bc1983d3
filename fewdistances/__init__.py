"""Points with few, or many, unlike distances."""
