"""Worldyard: what holds in worlds that lead to one another."""
