"""Trees and bodies of loops."""
