"""The crews and boats of one line of calls, and what has been told of them."""


class Fleet:
    def __init__(self):
        self.begin(0, 0)

    def begin(self, crews, boats):
        self.crews = crews
        self.boats = boats
        self.refused = [[False] * boats for crew in range(crews)]
        self.costs = [[0] * boats for crew in range(crews)]
        self.boats_out = [False] * boats
        self.due_crews = list(range(crews))

    def has_crew(self, crew):
        return 0 <= crew < self.crews

    def has_boat(self, boat):
        return 0 <= boat < self.boats

    def may_have(self, crew, boat):
        return not self.refused[crew][boat] and not self.boats_out[boat]

    def boats_for(self, crew):
        return [boat for boat in range(self.boats) if self.may_have(crew, boat)]
