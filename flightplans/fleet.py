"""The crews and boats of one line of calls, and what has been told of them."""


class Fleet:
    def __init__(self):
        self.begin(0, 0)

    def begin(self, crews, boats):
        self.crews = crews
        self.boats = boats
        self.refused = [[False] * boats for crew in range(crews)]
        self.costs = [[0] * boats for crew in range(crews)]
        self.boats_out = [False] * boats
        self.due_crews = list(range(crews))
        # The flights that were sailed, the first one first, each as its pairs by the crews' numbers.
        self.sailed = []
        self.together = [[False] * boats for crew in range(crews)]

    def has_crew(self, crew):
        return 0 <= crew < self.crews

    def has_boat(self, boat):
        return 0 <= boat < self.boats

    def may_have(self, crew, boat):
        return not (self.refused[crew][boat] or self.boats_out[boat] or self.together[crew][boat])

    def boats_for(self, crew):
        return [boat for boat in range(self.boats) if self.may_have(crew, boat)]

    def due_offers(self):
        """The boats that each due crew may have, by the crews' numbers."""
        return [self.boats_for(crew) for crew in self.due_crews]

    def sail(self, flight):
        pairs = list(zip(self.due_crews, flight))
        self.sailed.append(pairs)
        self.mark_together(pairs, True)

    def unsail(self):
        # A pair that has sailed together can't sail again, so it was in this flight alone.
        self.mark_together(self.sailed.pop(), False)

    def mark_together(self, pairs, together):
        for crew, boat in pairs:
            self.together[crew][boat] = together
