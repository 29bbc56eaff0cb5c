"""Takes the numbers and rows of calls out of their list, one behind another."""


class CallReader:
    def __init__(self, calls):
        self.calls = calls
        self.position = 0

    def is_at_end(self):
        return self.position >= len(self.calls)

    def take_number(self):
        number = self.calls[self.position]
        self.position += 1
        return number

    def take_row(self):
        length = self.take_number()
        row = self.calls[self.position:self.position + length]
        self.position += length
        return row
