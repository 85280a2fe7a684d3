"""Nonebetter: plans of works, and papers that none is better."""
