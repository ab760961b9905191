"""Exitweave: functions with several ways out."""
