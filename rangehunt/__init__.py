"""Rangehunt: meters that choose their own range and load what they measure."""
