"""Machines of bits that keep their wishes, and why."""
