"""Frames of bits on a line, parted by flags, judged for all payloads."""
