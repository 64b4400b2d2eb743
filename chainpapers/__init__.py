"""Chainpapers: certificate paths by published rules, with papers."""
