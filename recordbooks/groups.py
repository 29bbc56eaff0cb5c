"""Groups of readers: members, owners of parts, places."""

from recordbooks.refusals import NotAMember, NotTheOwner, OutOfRange, Outdated, ThereAlready


def may_stay(shares, owner, quotient, left):
    if owner not in shares:
        return False
    if shares[owner] < quotient:
        return True
    above = [member for member in shares if shares[member] > quotient]
    return shares[owner] == quotient and len(above) < left


# shares counts the parts of each member and is filled here.
def staying_owners(owners, shares):
    quotient = len(owners) // len(shares)
    left = len(owners) % len(shares)
    staying = []
    for owner in owners:
        if may_stay(shares, owner, quotient, left):
            shares[owner] += 1
            staying.append(owner)
        else:
            staying.append(None)
    return staying


def poorest(shares):
    return min(list(shares), key=lambda member: (shares[member], member))


def handed_over(owners, members):
    if members == []:
        return [None for owner in owners]
    shares = {}
    for member in members:
        shares[member] = 0
    staying = staying_owners(owners, shares)
    handed = []
    for owner in staying:
        if owner is None:
            taker = poorest(shares)
            shares[taker] += 1
            handed.append(taker)
        else:
            handed.append(owner)
    return handed


class Group:
    # book is the book's place; an owner of None is nobody.
    def __init__(self, book, part_count):
        self.book = book
        self.generation = 0
        self.members = []
        self.owners = [None for index in range(part_count)]
        self.kept = [0 for index in range(part_count)]
        self.read_up_to = [0 for index in range(part_count)]

    def take_in(self, member):
        if member in self.members:
            raise ThereAlready()
        self.change_members(sorted(self.members + [member]))

    def let_out(self, member):
        if member not in self.members:
            raise NotAMember()
        self.change_members([other for other in self.members if other != member])

    def change_members(self, members):
        self.members = members
        self.generation += 1
        self.read_from_kept()
        self.owners = handed_over(self.owners, members)

    def read_from_kept(self):
        self.read_up_to = list(self.kept)

    def move_kept(self, part, place):
        self.kept[part] = max(self.kept[part], place)

    def keep_place(self, part, place):
        self.kept[part] = place

    def read_on(self, part, place):
        self.read_up_to[part] = place

    def check_generation(self, generation):
        if generation != self.generation:
            raise Outdated()

    def check_owner(self, part, member):
        if not 0 <= part < len(self.owners) or self.owners[part] != member:
            raise NotTheOwner()

    def check_place(self, part, place, on_disk):
        if not self.kept[part] <= place <= min(self.read_up_to[part], on_disk):
            raise OutOfRange()
