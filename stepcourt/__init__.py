"""Stepcourt: who tells rightly how a long run stands, found by halves."""
