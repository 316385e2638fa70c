"""Lotsayings: sayings of lots, compiled to machines on trees and narrow webs."""
