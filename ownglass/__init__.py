"""Ownglass: programs that know their own text."""
