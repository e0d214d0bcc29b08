"""Lastrows: how many old rows an exact Krylov solver must keep."""
