"""Rulevoices: what combining allow and deny can promise."""
