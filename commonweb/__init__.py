"""Commonweb: the greatest common piece of two webs."""
