"""Meanloom: means of products and the sums that add for things apart."""
