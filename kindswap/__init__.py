"""Kindswap: kinds of pairs and functions told alike, with turners, and libraries looked through."""
