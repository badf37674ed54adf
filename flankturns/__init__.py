"""Flankturns: cells that take the colour of both their neighbours."""
