"""Everybowl: points on a floor, counted by what lies beyond lines, planes and circles."""
