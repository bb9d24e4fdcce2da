"""Byestand: an evening of tables, packets and pairs."""
