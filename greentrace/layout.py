"""The lots and places of a store."""


class Layout:
    """Lots and places by their names, in order; silos tells of each place whether it's a silo."""

    def __init__(self):
        self.lots = []
        self.places = []
        self.silos = []

    def has_name(self, name):
        return name in self.lots or name in self.places

    def add_lot(self, name):
        self.lots.append(name)

    def add_place(self, name, silo):
        self.places.append(name)
        self.silos.append(silo)
