"""Fronts: a step before a linear machine, and the least linear machine that does the same."""

from pagebureau.base.marks import Marks
from pagebureau.flows.steps import Sift
from pagebureau.judge.machines import Machine, figure_machine, names_of, representatives, signs_of
from pagebureau.judge.vectors import Frame, put, times_rows, without_zeros
from pagebureau.judge.ways import NEW_DAY, ways_of

# The parts of the vector of a front, for each state of the step: the vector of the machine; what
# it is, in its entries of degree 0, times the held amount; and what it gets in its entries of
# degree 1 for each 1 of the promised amount.
_PLAIN = 0
_HELD = 1
_PROMISED = 2


class Front:
    """The linear machine of a step before a machine, whose entries are numbered as they come.

    An entry stands for a state of the step, a part, and an entry of the machine.
    """

    def __init__(self, ways, machine):
        self._ways = ways
        self._machine = machine
        self._is_flat = 1 not in machine.degrees
        # The number of the results.
        self.many = len(machine.results)
        self._numbers = {}
        self._entries = []
        self._known_ways = {}

    def _number(self, entry):
        if entry not in self._numbers:
            self._numbers[entry] = len(self._entries)
            self._entries.append(entry)
        return self._numbers[entry]

    def degree(self, number):
        """The degree of an entry."""
        _, part, at = self._entries[number]
        if part == _PLAIN:
            return self._machine.degrees[at]
        return 1 if part == _HELD else 0

    def beginning(self):
        return self._joined({None: {(_PLAIN, at): number for at, number in self._machine.first.items()}})

    def _parted(self, vector):
        """A dict from states to the entries of a vector for them."""
        found = {}
        for number, worth in vector.items():
            state, part, at = self._entries[number]
            entries = found.setdefault(state, {})
            entries[part, at] = worth
        return found

    def _joined(self, parted):
        vector = {}
        for state, entries in parted.items():
            for (part, at), worth in entries.items():
                if worth != 0:
                    vector[self._number((state, part, at))] = worth
        return vector

    def _ways_from(self, state, sign):
        if (state, sign) not in self._known_ways:
            self._known_ways[state, sign] = self._ways.ways(state, sign)
        return self._known_ways[state, sign]

    def _course(self, entries, deeds):
        course = Course(self._machine, self._is_flat, entries)
        for deed in deeds:
            course.do(deed)
        return course

    def moved(self, vector, sign):
        """The vector behind a sign with the amount 0, and what comes to it for each 1 of the amount."""
        level, steep = {}, {}
        for state, entries in self._parted(vector).items():
            for after, deeds in self._ways_from(state, sign):
                course = self._course(entries, deeds)
                _add_to(level.setdefault(after, {}), course.level)
                _add_to(steep.setdefault(after, {}), course.steep)
        return self._joined(level), self._joined(steep)

    def read_off(self, vector):
        """The list of the results of a vector."""
        total = {}
        for state, entries in self._parted(vector).items():
            deeds = self._ways.last_deeds(state)
            if deeds is not None:
                course = self._course(entries, deeds)
                _add_to(total, {at: worth for (part, at), worth in course.level.items() if part == _PLAIN})
        return self._machine.read_off(total)


def _add_to(vector, other):
    for at, number in other.items():
        put(vector, at, number)


class Course:
    """The entries for one state of a step, while deeds are done at a sign.

    `level` are those with the amount 0, `steep` what comes to them for each 1 of the amount.
    """

    def __init__(self, machine, is_flat, entries):
        self._machine = machine
        self._is_flat = is_flat
        self.level = entries
        self.steep = {}

    def do(self, deed):
        """Does a deed."""
        if deed[0] == "break":
            self._pass(NEW_DAY)
        elif deed[0] == "empty":
            self._pass(self._machine.known[deed[1]] + ".")
        elif deed[0] == "full":
            self._pass_full(self._machine.known[deed[1]], deed[2:])
        elif deed[0] == "hold" and not self._is_flat:
            self._hold(deed[1], deed[2])
        elif deed[0] == "redeem":
            self._redeem()

    def _pass(self, sign):
        rows = self._machine.matrices[sign]
        self.level = _passed_on(self.level, rows)
        self.steep = _passed_on(self.steep, rows)

    def _pass_full(self, mark, times):
        level, steep = self.level, self.steep
        self._pass(mark + "0")
        if not self._is_flat:
            by_sign, by_held, by_promised = times
            more = self._machine.matrices[mark + "*"]
            _add_more(self.steep, level, _PLAIN, more, by_sign, _PLAIN)
            _add_more(self.level, level, _HELD, more, by_held, _PLAIN)
            _add_more(self.steep, steep, _HELD, more, by_held, _PLAIN)
            _add_more(self.level, level, _PLAIN, more, by_promised, _PROMISED)

    def _hold(self, by_held, by_sign):
        level, steep = self.level, self.steep
        self.level = _with_held(level, by_held)
        self.steep = _with_held(steep, by_held)
        for (part, at), number in level.items():
            if by_sign != 0 and part == _PLAIN and self._machine.degrees[at] == 0:
                put(self.steep, (_HELD, at), by_sign * number)

    def _redeem(self):
        for (part, at), number in self.level.items():
            if part == _PROMISED:
                put(self.steep, (_PLAIN, at), number)
        self.level = {entry: number for entry, number in self.level.items() if entry[0] != _PROMISED}


def _passed_on(entries, rows):
    found = {}
    for (part, at), number in entries.items():
        for other, factor in rows[at].items():
            put(found, (part, other), number * factor)
    return found


def _add_more(found, entries, part_before, rows, times, part):
    """Adds what one part of some entries becomes by a matrix, times a number, to a part of the found ones."""
    if times != 0:
        for (other_part, at), number in entries.items():
            if other_part == part_before:
                for other, factor in rows[at].items():
                    put(found, (part, other), times * number * factor)


def _with_held(entries, by_held):
    """The entries with what is held times a number."""
    found = {}
    for entry, number in entries.items():
        times = by_held if entry[0] == _HELD else 1
        if times != 0:
            found[entry] = times * number
    return found


def _reached(front, signs):
    """The frame of all vectors of a front that rows lead to."""
    frame = Frame()
    waiting = [front.beginning()]
    frame.grow(waiting[0])
    at = 0
    while at < len(waiting):
        for sign in signs:
            for vector in front.moved(waiting[at], sign):
                new = frame.grow(vector)
                if new is not None:
                    waiting.append(new)
        at = at + 1
    return frame


def _coordinates(vector, places):
    return {places[at]: number for at, number in vector.items() if at in places}


def _machine_of(front, frame, known):
    """The machine of a front with the vectors of a frame as its unit vectors."""
    pivots = list(frame.vectors)
    places = {pivot: at for at, pivot in enumerate(pivots)}
    marks = sorted(set(list(known.values())))
    matrices = {name: [] for name in names_of(marks)}
    results = []
    for pivot in pivots:
        vector = frame.vectors[pivot]
        results.append(front.read_off(vector))
        for sign in signs_of(marks):
            level, steep = front.moved(vector, sign)
            matrices[sign].append(_coordinates(level, places))
            if sign[1:] == "0":
                matrices[f"{sign[0]}*"].append(_coordinates(steep, places))
    degrees = [front.degree(pivot) for pivot in pivots]
    first = _coordinates(front.beginning(), places)
    read = [without_zeros({at: told[k] for at, told in enumerate(results)}) for k in range(front.many)]
    return Machine(known, degrees, first, read, matrices)


def _told_apart(machine):
    """The frame of all that can be read off a machine, now or behind more rows."""
    names = names_of(machine.marks)
    frame = Frame()
    waiting = [frame.grow(result) for result in machine.results]
    waiting = [result for result in waiting if result is not None]
    at = 0
    while at < len(waiting):
        for name in names:
            new = frame.grow(times_rows(waiting[at], machine.columns(name)))
            if new is not None:
                waiting.append(new)
        at = at + 1
    return frame


def narrowed(machine):
    """The machine without what can never be told apart."""
    frame = _told_apart(machine)
    pivots = list(frame.vectors)
    places = {pivot: at for at, pivot in enumerate(pivots)}
    # Turned round, the frame has for each entry what it is in the new machine.
    inside = _turned_frame(frame, places, len(machine.degrees))
    matrices = {}
    for name in names_of(machine.marks):
        rows = machine.matrices[name]
        matrices[name] = [times_rows(rows[pivot], inside) for pivot in pivots]
    degrees = [machine.degrees[pivot] for pivot in pivots]
    results = [_coordinates(result, places) for result in machine.results]
    return Machine(machine.known, degrees, times_rows(machine.first, inside), results, matrices)


def _turned_frame(frame, places, count):
    """For each of so many entries its products with the vectors of a frame."""
    inside = [{} for _ in range(count)]
    for pivot, place in places.items():
        for at, number in frame.vectors[pivot].items():
            inside[at][place] = number
    return inside


def with_step(step, machine):
    """The least machine that does with all books what a machine does behind a straight step."""
    front = Front(ways_of(step), machine)
    frame = _reached(front, signs_of(machine.marks))
    return narrowed(_machine_of(front, frame, machine.known))


def with_steps(pipeline, machine):
    """The least machine that does with all books what a machine does with what a pipeline leaves."""
    found = with_step(Sift(Marks(Marks.ALL)), machine)
    for step in list(pipeline)[::-1]:
        found = with_step(step, found)
    return found


def report_machine(report, known):
    """The least machine that tells the figure of a straight report."""
    return with_steps(report.pipeline, figure_machine(known, report.word, report.marks))


def report_machines(reports):
    """For some reports the machines of each, over the same marks."""
    known = representatives([report.pipeline for report in reports], [report.marks for report in reports])
    # Equal reports have one machine.
    by_text = {report.text(): report for report in reports}
    machines = {text: report_machine(by_text[text], known) for text in by_text}
    return [machines[report.text()] for report in reports]
