"""Allocating lots to orders."""
