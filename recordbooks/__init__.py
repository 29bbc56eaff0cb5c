"""A store of records; recordbooks.desk.answers answers a list of calls."""
