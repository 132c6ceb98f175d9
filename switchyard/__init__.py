"""Switchyard: what lists of words mean to a program, by its table of options, operands and commands."""
