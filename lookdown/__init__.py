"""Lookdown: when a chooser may look down alone."""
