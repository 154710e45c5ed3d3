"""Harvest as a game against chance."""
