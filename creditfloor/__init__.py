"""Creditfloor: credit balances with which no sender ever stalls."""
