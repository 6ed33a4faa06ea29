"""Talejudge: tales of many hands judged against one store."""
