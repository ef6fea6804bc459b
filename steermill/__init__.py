"""Steermill: machines of numbers that are steered and watched."""
