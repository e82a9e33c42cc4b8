"""Webs thinned so that ways grow but little."""
