"""Callcoin: sums reckoned in one money and paid in pieces."""
