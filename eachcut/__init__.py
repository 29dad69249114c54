"""Transactions with semantic operations, right at every cut."""
