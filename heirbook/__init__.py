"""Heirbook: a house's book of births, unions and deaths, its words of kin, and who takes what of the dead."""
