"""Hoursheets: sheets of hours, what their words weigh, and what the weights tell."""
