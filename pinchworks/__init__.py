"""Pinchworks: heat passed on between streams, with exact least costs and certificates."""
