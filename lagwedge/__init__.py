"""Lagwedge: damages by years and lags, what is still to come, and where it comes from."""
