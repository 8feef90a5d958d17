"""List calls as points 42 to 47 tell them, walked request by request, and random services."""

from itertools import product

from pagebureau.posting.plans import Plan
from pagebureau.posting.services import Service, Store

ORDERS = ("given", "reversed", "by_day")
DUPLICATES = ("keep", "first", "last", "newest")
TIMINGS = ("each", "ahead")
REFUSALS = ("continue", "stop", "rollback")


def all_plans(sizes=(0, 1, 2, 3)):
    return [
        Plan(order=order, duplicates=duplicates, size=size, timing=timing, refusal=refusal)
        for order, duplicates, size, timing, refusal in product(ORDERS, DUPLICATES, sizes, TIMINGS, REFUSALS)
    ]


def random_grid(source, many, shared_states, own_states, refused=0.3):
    def entry():
        answer = source.choice((-1, -2)) if source.random() < refused else source.randint(0, 2)
        return (answer, source.randrange(shared_states), source.randrange(own_states))
    return [[[entry() for _ in range(many)] for _ in range(own_states)] for _ in range(shared_states)]


class Told:
    """A service beside its grid."""

    def __init__(self, letters, grid):
        self.letters = letters
        self.grid = grid
        self.service = Service(letters, grid)

    def entry(self, state, request):
        shared, owns = state
        return self.grid[shared][owns.get(request[0], 0)][self.letters.index(request[1])]

    def applied(self, state, request):
        _, shared, own = self.entry(state, request)
        return (shared, {**state[1], request[0]: own})

    def called(self, state, request):
        answer = self.entry(state, request)[0]
        return answer, (state if answer < 0 else self.applied(state, request))


def random_told(source, most_marks=2, most_shared=3, most_own=2):
    many = source.randint(1, most_marks)
    letters = "".join(sorted(source.sample("abcdef", many)))
    refused = source.choice((0, 0.3, 0.6))
    return Told(letters, random_grid(source, many, source.randint(1, most_shared), source.randint(1, most_own), refused))


def random_state(source, told, days=(0, 1, 2)):
    shared = source.randrange(told.service.shared_states)
    return (shared, {day: source.randrange(told.service.own_states) for day in days if source.random() < 0.7})


def store_of(state):
    return Store(state[0], state[1])


def random_requests(source, letters, most, days=(0, 1, 2)):
    amounts = (None, 0, 1, 5)
    return [(source.choice(days), source.choice(letters), source.choice(amounts)) for _ in range(source.randint(0, most))]


def queue_of(plan, requests, chunk):
    if plan.order == "reversed":
        return list(reversed(chunk))
    if plan.order == "by_day":
        return sorted(chunk, key=lambda place: requests[place][0])
    return chunk


def kept_of(plan, requests, queue):
    """A dict from each place of the queue to that of its kept request."""
    kept = {}
    for place in queue:
        if plan.duplicates == "keep":
            alike = [place]
        elif plan.duplicates == "newest":
            alike = [other for other in queue if requests[other][0] == requests[place][0]]
        else:
            alike = [other for other in queue if requests[other][:2] == requests[place][:2]]
        kept[place] = alike[0] if plan.duplicates == "first" else alike[-1]
    return kept


class Walked:
    """What comes of a list call: answers, state, sequence, the entered rows and their book."""

    def __init__(self, told, plan, state, requests):
        self.answers = [None] * len(requests)
        self.state = state
        self.sequence = []
        self.entered = []
        stopped = False
        width = plan.size or max(1, len(requests))
        for start in range(0, len(requests), width):
            queue = queue_of(plan, requests, list(range(start, min(start + width, len(requests)))))
            kept = kept_of(plan, requests, queue)
            places = [place for place in queue if kept[place] == place]
            for place in places:
                self.sequence += [place] + [other for other in queue if kept[other] == place and other != place]
            if not stopped:
                answers = self.post(told, plan, requests, places)
                stopped = plan.refusal == "stop" and any(answer < 0 for answer in answers.values())
                for place in queue:
                    self.answers[place] = answers.get(kept[place])
                self.entered += [requests[place] for place in places if answers.get(place, -1) >= 0]
        self.book = sorted(self.entered, key=lambda row: row[0])

    def post(self, told, plan, requests, places):
        before = self.state
        looked_up = {place: told.entry(before, requests[place])[0] for place in places}
        answers = {}
        for place in places:
            if plan.timing == "each":
                answers[place], self.state = told.called(self.state, requests[place])
            else:
                answers[place] = looked_up[place]
                if looked_up[place] >= 0:
                    self.state = told.applied(self.state, requests[place])
            if answers[place] < 0 and (plan.refusal == "stop" or (plan.refusal == "rollback" and plan.timing == "each")):
                break
        if plan.refusal == "rollback" and any(answer < 0 for answer in answers.values()):
            self.state = before
            answers = {place: answer for place, answer in answers.items() if answer < 0}
        return answers


def single_calls(told, state, requests, places):
    """The answers by place, the state and the entered rows of single calls."""
    answers, entered = {}, []
    for place in places:
        answers[place], state = told.called(state, requests[place])
        entered += [requests[place]] if answers[place] >= 0 else []
    return answers, state, entered


def same_state(one, other):
    days = {*one[1], *other[1]}
    return one[0] == other[0] and all(one[1].get(day, 0) == other[1].get(day, 0) for day in days)


def by_day(rows):
    return sorted(rows, key=lambda row: row[0])


def keeps(promise, told, plan, state, requests):
    """Whether a list call keeps a promise, by the words of point 47."""
    walked = Walked(told, plan, state, requests)
    done = [place for place in walked.sequence if walked.answers[place] is not None and walked.answers[place] >= 0]
    places = {"serial": walked.sequence, "truthful": done}.get(promise, range(len(requests)))
    answers, after, entered = single_calls(told, state, requests, places)
    if any(answers[place] != walked.answers[place] for place in answers) or not same_state(after, walked.state):
        return False
    if promise == "truthful":
        return True
    if promise == "daily":
        return sorted(map(repr, entered)) == sorted(map(repr, walked.entered))
    return by_day(entered) == walked.book


def small_states(told, requests):
    days = sorted({day for day, _, _ in requests})
    for shared in range(told.service.shared_states):
        for owns in product(range(told.service.own_states), repeat=len(days)):
            yield (shared, dict(zip(days, owns)))


def small_requests(letters):
    """The lists of requests of all small cases, ascending."""
    kinds = list(product((0, 1), letters))
    for many in (2, 3):
        for first, second in product(kinds, repeat=2):
            yield [(day, mark, place + 1) for place, (day, mark) in enumerate([first, second, first][:many])]


def first_breach(promise, told, plan):
    """The requests and the state of the first small case that breaks a promise, or None."""
    for requests in small_requests(told.letters):
        for state in small_states(told, requests):
            if not keeps(promise, told, plan, state, requests):
                return requests, state
    return None
