"""Switchhills: settings of switches, and which of two neighbours does better."""
