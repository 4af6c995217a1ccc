"""Fuseboard: guards in a tree that open by what is drawn and how long, told turn by turn."""
