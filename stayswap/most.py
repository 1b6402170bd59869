"""How many stays may be gone through one by one."""

MOST = 300
