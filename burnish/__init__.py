"""burnish: an optimizer that leaves a certificate."""
