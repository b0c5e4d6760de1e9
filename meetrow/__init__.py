"""Meetrow: folk hand in hand, who each beat go where three ways meet."""
