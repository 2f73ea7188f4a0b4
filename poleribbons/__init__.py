"""Poleribbons: which ribbons lie above when two rows of dancers go round a pole."""
