"""Kindswap: kinds made of pairs and functions, and which of them are alike."""
