"""Rootalarms: what is broken below the alarms."""
