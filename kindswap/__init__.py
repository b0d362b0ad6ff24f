"""Kindswap: kinds made of pairs and functions, which of them are alike, their worths, and terms."""
