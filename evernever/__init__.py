"""Evernever: a fence round what a machine of lamps can reach."""
