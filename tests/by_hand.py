"""What several test files share: stairs and rooms beside each other, by hand, and drawn plans and deeds."""

import random

RULES = ["old", "come", "few"]
WRITINGS = ["late", "through"]
KINDS = ["within", "apart", "free"]

GREAT_WORD = 10 ** 30 - 1


class Lying:
    """A board in a room: its words, whether it's changed there, and the times at which it came and was used."""

    def __init__(self, words, changed, came):
        self.words = list(words)
        self.changed = changed
        self.came = came
        self.used = []

    def rank(self, rule):
        ranks = {"old": (self.used or [self.came])[-1], "come": self.came, "few": (len(self.used), self.came)}
        return ranks[rule]


class HandStairs:
    """Stairs in which each deed tells a new list of events; choose(mates) may name another one to go."""

    def __init__(self, plan, choose=None):
        self.size, self.kind, self.plans = plan
        self.n = len(self.plans)
        self.stairs = [{} for room in self.plans]
        self.remembered = {}
        self.choose = choose
        self.time = 0

    # Questions.

    def lies(self, k):
        return sorted(self.stairs[k])

    def changed(self, k):
        return sorted(board for board, lying in self.stairs[k].items() if lying.changed)

    def order(self, k, shelf):
        shelves, places, rule, writing = self.plans[k]
        mates = [board for board in self.stairs[k] if board % shelves == shelf]
        return sorted(mates, key=lambda board: self.stairs[k][board].rank(rule))

    def words(self, k, board):
        if k == self.n:
            return [self.remembered.get(board * self.size + at, 0) for at in range(self.size)]
        return list(self.stairs[k][board].words)

    def memory(self):
        return sorted((spot, word) for spot, word in self.remembered.items() if word != 0)

    # What rooms do.

    def late(self, k):
        return self.plans[k][3] == "late"

    def tick(self):
        self.time += 1
        return self.time

    def use(self, k, board):
        self.stairs[k][board].used.append(self.tick())

    def come(self, k, board, words, changed):
        assert board not in self.stairs[k]
        self.stairs[k][board] = Lying(words, changed, self.tick())
        return [("in", k, board)]

    def next_to_go(self, k, board):
        shelves, places = self.plans[k][:2]
        mates = self.order(k, board % shelves)
        assert len(mates) <= places
        if len(mates) < places:
            return None
        return mates[0] if self.choose is None else self.choose(mates)

    def put_words(self, k, board, words):
        if k == self.n:
            for at, word in enumerate(words):
                self.remembered[board * self.size + at] = word
        else:
            self.stairs[k][board].words = list(words)
        return [("words", k, board)]

    # Kinds within and free.

    def words_go_on(self, k, board, words):
        if k == self.n:
            return self.put_words(k, board, words)
        events = []
        if board in self.stairs[k]:
            events += self.put_words(k, board, words)
            if self.late(k):
                self.stairs[k][board].changed = True
                return events
        return events + self.words_go_on(k + 1, board, words)

    def board_goes(self, i, board):
        froms = [i]
        if self.kind == "within":
            froms += [h for h in range(i - 1, -1, -1) if board in self.stairs[h]]
        gone = [self.stairs[h].pop(board) for h in froms]
        events = [("out", h, board) for h in froms]
        if any(lying.changed for lying in gone):
            events += self.words_go_on(i + 1, board, gone[-1].words)
        return events

    def fetch_by_copies(self, board, k):
        if k < self.n:
            self.use(k, board)
        found = self.words(k, board)
        events = []
        for stair in reversed(range(k)):
            other = self.next_to_go(stair, board)
            if other is not None:
                events += self.board_goes(stair, other)
            events += self.come(stair, board, found, False)
        return events

    # Kind apart.

    def put_board(self, i, board, words, changed):
        if i == self.n:
            return self.put_words(i, board, words) if changed else []
        events = []
        other = self.next_to_go(i, board)
        if other is not None:
            gone = self.stairs[i].pop(other)
            events.append(("out", i, other))
        events += self.come(i, board, words, changed)
        if changed and not self.late(i):
            events += self.put_words(self.n, board, words)
            self.stairs[i][board].changed = False
        if other is not None:
            events += self.put_board(i + 1, other, gone.words, gone.changed)
        return events

    def fetch_by_moving(self, board, k):
        if k == 0:
            self.use(0, board)
            return []
        if k == self.n:
            return self.put_board(0, board, self.words(k, board), False)
        gone = self.stairs[k].pop(board)
        return [("out", k, board)] + self.put_board(0, board, gone.words, gone.changed)

    # Deeds.

    def fetch(self, board):
        k = min([stair for stair in range(self.n) if board in self.stairs[stair]] + [self.n])
        fetch = self.fetch_by_moving if self.kind == "apart" else self.fetch_by_copies
        return [("found", k)] + fetch(board, k)

    def read(self, spot):
        events = self.fetch(spot // self.size)
        return (self.words(0, spot // self.size)[spot % self.size], events)

    def write(self, spot, word):
        board = spot // self.size
        events = self.fetch(board)
        lying = self.stairs[0][board]
        lying.words[spot % self.size] = word
        if self.late(0):
            lying.changed = True
            return events
        first = self.n if self.kind == "apart" else 1
        return events + self.words_go_on(first, board, lying.words)

    def emptied(self):
        events = []
        for k in range(self.n):
            for board in self.lies(k):
                lying = self.stairs[k].pop(board)
                events.append(("out", k, board))
                if lying.changed:
                    first = self.n if self.kind == "apart" else k + 1
                    events += self.words_go_on(first, board, lying.words)
        return events


class HandBeside(HandStairs):
    """Beside, with the questions of stairs: two near rooms, 0 and 1, and the far one, 2."""

    def __init__(self, size, near, far):
        HandStairs.__init__(self, (size, "beside", (near, near, far)))

    def put_down(self, board, words):
        events = self.put_words(2, board, words)
        if self.late(2):
            self.stairs[2][board].changed = True
            return events
        return events + self.put_words(3, board, words)

    def goes_from_far(self, board):
        froms = [2] + [k for k in [0, 1] if board in self.stairs[k]]
        gone = [self.stairs[k].pop(board) for k in froms]
        events = [("out", k, board) for k in froms]
        changed = [lying for lying in gone[1:] + gone[:1] if lying.changed]
        if changed:
            events += self.put_words(3, board, changed[0].words)
        return events

    def goes_from_near(self, k, board):
        lying = self.stairs[k].pop(board)
        return [("out", k, board)] + (self.put_down(board, lying.words) if lying.changed else [])

    def fetch_by(self, hand, board):
        if board in self.stairs[hand]:
            self.use(hand, board)
            return [("found", hand)]
        if board in self.stairs[2]:
            self.use(2, board)
            events = [("found", 2)]
        else:
            events = [("found", 3)]
            other = self.next_to_go(2, board)
            if other is not None:
                events += self.goes_from_far(other)
            events += self.come(2, board, self.words(3, board), False)
        if board in self.changed(1 - hand):
            events += self.put_down(board, self.words(1 - hand, board))
            self.stairs[1 - hand][board].changed = False
        other = self.next_to_go(hand, board)
        if other is not None:
            events += self.goes_from_near(hand, other)
        return events + self.come(hand, board, self.words(2, board), False)

    def read(self, hand, spot):
        events = self.fetch_by(hand, spot // self.size)
        return (self.words(hand, spot // self.size)[spot % self.size], events)

    def write(self, hand, spot, word):
        board = spot // self.size
        events = self.fetch_by(hand, board)
        if board in self.stairs[1 - hand]:
            self.stairs[1 - hand].pop(board)
            events.append(("out", 1 - hand, board))
        lying = self.stairs[hand][board]
        lying.words[spot % self.size] = word
        if self.late(hand):
            lying.changed = True
            return events
        return events + self.put_down(board, lying.words)

    def emptied(self):
        events = []
        for k in [0, 1]:
            for board in self.lies(k):
                events += self.goes_from_near(k, board)
        for board in self.lies(2):
            events += self.goes_from_far(board)
        return events


def do_deed(stairs, deed):
    """A deed's events."""
    if deed[0] == "read":
        return stairs.read(deed[1])[1]
    return stairs.write(deed[1], deed[2])


def state_of(stairs, plan, boards):
    """All that Stairs can be asked about these boards, as one thing."""
    n = len(plan[2])
    rooms = [(stairs.lies(k), stairs.changed(k)) for k in range(n)]
    orders = [[stairs.order(k, shelf) for shelf in range(plan[2][k][0])] for k in range(n)]
    words = [[(board, stairs.words(k, board)) for board in stairs.lies(k)] for k in range(n)]
    remembered = [stairs.words(n, board) for board in boards]
    return [rooms, orders, words, remembered, stairs.memory()]


def all_lists(thing):
    """Every list in a thing, at any depth."""
    found = [thing] if isinstance(thing, list) else []
    if isinstance(thing, (list, tuple)):
        for part in thing:
            found += all_lists(part)
    return found


def drawn_room(chance, shelves, places):
    return (chance.choice(shelves), chance.choice(places), chance.choice(RULES), chance.choice(WRITINGS))


def drawn_plans(seed, many, shelves=(1, 1, 2, 3, 64), places=(1, 1, 2, 3, 5, 16)):
    """Plans of one to four rooms, of all kinds, sizes, rules and writings by turns."""
    chance = random.Random(seed)
    plans = []
    for at in range(many):
        rooms = tuple(drawn_room(chance, shelves, places) for room in range(1 + at // 3 % 4))
        plans.append((chance.choice([1, 1, 2, 3, 16]), KINDS[at % 3], rooms))
    return plans


def drawn_word(chance):
    return chance.choice([0, 1, -1, chance.randrange(-99, 100), chance.randrange(10 ** 29, 10 ** 30), -GREAT_WORD])


def drawn_deeds(chance, size, boards, many):
    """Reads and writes of these boards' spots."""
    deeds = []
    for at in range(many):
        spot = chance.choice(boards) * size + chance.randrange(size)
        deeds.append(("read", spot) if chance.random() < 0.5 else ("write", spot, drawn_word(chance)))
    return deeds


def drawn_boards(chance, plan):
    """Boards of which many stand on one shelf, so that shelves are full soon."""
    most = max(1, 9999 // plan[0] // 64 - 1)
    boards = [64 * chance.randrange(min(most, 12)) for at in range(8)] + [chance.randrange(8) for at in range(4)]
    return sorted(set(boards))
