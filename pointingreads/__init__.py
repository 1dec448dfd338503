"""Readers that go along a row once and point at one of its entries, told for all rows."""
