"""Flights: which crews can sail at once on the boats that they share, and at what cost."""
