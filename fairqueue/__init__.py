"""Fairqueue: a line shared by weights, packet by packet."""
