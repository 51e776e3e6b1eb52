"""Eachgreatest: all greatest sets of a kind, one by one."""
