"""What all other modules rest on."""
