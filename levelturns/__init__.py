"""Levelturns: leagues in which matches of level sides are turned."""
