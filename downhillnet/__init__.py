"""Packets passed downhill through a net that nobody knows."""
