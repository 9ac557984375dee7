"""Oneroom: the newer text made in the room of the elder one."""
