"""The limits of the deeds of a ledger."""

MAX_RULES = 10
MAX_REPORTS = 40
