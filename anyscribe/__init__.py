"""Anyscribe: texts copied by scribes who may do anything of told kinds."""
