"""Creditturns: flows that share a line by turns with credits, exactly, for all arrivals."""
