"""Plans: how a batch is posted by one list call, and the replies to it."""

from pagebureau.base.errors import BadPlan, NoRow
from pagebureau.base.rows import Book
from pagebureau.posting.batches import cut_places, is_size
from pagebureau.posting.services import called, check_requests, check_store, is_done, is_refusal

OPTIONS = ("order", "duplicates", "size", "timing", "refusal")
# The values of the options, but for the sizes.
VALUES = {
    "order": ("given", "reversed", "by_day"),
    "duplicates": ("keep", "first", "last", "newest"),
    "timing": ("each", "ahead"),
    "refusal": ("continue", "stop", "rollback"),
}


def _is_listed(option, value):
    return is_size(value) if option == "size" else value in VALUES[option]


def _queue_of(order, requests, places):
    """The places of a chunk in the order of its queue."""
    if order == "given":
        return places
    if order == "reversed":
        return places[::-1]
    days = [(requests[place][0], place) for place in places]
    return [place for _, place in sorted(set(days))]


def _alike_as(duplicates, requests, place):
    """What is equal for requests of which only one is kept."""
    day, mark, _ = requests[place]
    if duplicates == "keep":
        return place
    return day if duplicates == "newest" else (day, mark)


def _groups_of(duplicates, requests, queue):
    """For each kept request of a queue, in its order, the list of its place and those of its duplicates."""
    alike = {}
    for place in queue:
        key = _alike_as(duplicates, requests, place)
        alike[key] = alike.get(key, []) + [place]
    groups = {}
    for places in alike.values():
        kept = places[0] if duplicates == "first" else places[-1]
        groups[kept] = [kept, *[place for place in places if place != kept]]
    return [groups[place] for place in queue if place in groups]


class Posting:
    """A batch that is being posted by a plan, chunk by chunk."""

    def __init__(self, plan, service, store, requests):
        self._plan = plan
        self._service = service
        self._requests = requests
        self.store = store
        self.groups = []
        # The answers of the kept requests that are not skipped, by place.
        self.answers = {}
        self._is_stopped = False

    def post(self, places):
        """Posts the next chunk, whose requests have these places."""
        plan = self._plan
        queue = _queue_of(plan.order, self._requests, places)
        groups = _groups_of(plan.duplicates, self._requests, queue)
        self.groups.extend(groups)
        if self._is_stopped:
            return
        kept = [group[0] for group in groups]
        before = self.store
        found = self._called_ahead(kept) if plan.timing == "ahead" else self._called_each(kept)
        refused = [place for place in kept if is_refusal(found.get(place))]
        if refused and plan.refusal == "rollback":
            self.store = before
            found = {place: found[place] for place in refused}
        self.answers = {**self.answers, **found}
        self._is_stopped = len(refused) > 0 and plan.refusal == "stop"

    def _called_each(self, kept):
        """The answers of the requests at some places, called one after another."""
        answers = {}
        for place in kept:
            answer, after = called(self._service, self.store, self._requests[place])
            self.store = after
            answers[place] = answer
            if is_refusal(answer) and self._plan.refusal != "continue":
                # The others are skipped, whether the plan stops or rolls back.
                return answers
        return answers

    def _called_ahead(self, kept):
        """The answers of the requests at some places, looked up before they are applied."""
        start = self.store
        answers = {}
        for place in kept:
            request = self._requests[place]
            answers[place] = self._service.entry(start, request)[0]
            if is_done(answers[place]):
                self.store = self.store.after(request, self._service.entry(self.store, request))
            elif self._plan.refusal == "stop":
                return answers
        return answers


def _answers_by_place(groups, answers, count):
    """The answers of all requests: a duplicate has that of its kept request, a skipped one None."""
    found = {place: answers.get(group[0]) for group in groups for place in group}
    return [found[place] for place in range(count)]


class Plan:
    """How a batch is posted; it never changes."""

    LARGEST = 40

    def __init__(self, *, order="given", duplicates="keep", size=0, timing="each", refusal="continue"):
        self.order = order
        self.duplicates = duplicates
        self.size = size
        self.timing = timing
        self.refusal = refusal
        told = self.options()
        for option in OPTIONS:
            if not _is_listed(option, told[option]):
                raise BadPlan(option)

    def options(self):
        """A dict from the names of the options to their values."""
        return {
            "order": self.order, "duplicates": self.duplicates, "size": self.size,
            "timing": self.timing, "refusal": self.refusal,
        }

    def __eq__(self, other):
        return isinstance(other, Plan) and self.options() == other.options()

    def changed(self, **options):
        for name in options:
            if name not in OPTIONS:
                raise BadPlan(name)
        told = {**self.options(), **options}
        return Plan(**told)

    def __call__(self, service, store, batch):
        requests = list(batch)
        check_store(service, store)
        check_requests(service, requests)
        posting = Posting(self, service, store, requests)
        for places in cut_places(len(requests), self.size):
            posting.post(places)
        return Reply(requests, posting)


class Reply:
    """What has come of a batch that was posted; it never changes."""

    def __init__(self, requests, posting):
        self.store = posting.store
        self._requests = requests
        self._groups = posting.groups
        self._answers = _answers_by_place(posting.groups, posting.answers, len(requests))
        self.book = Book.of(self.entered)

    def __iter__(self):
        return iter(self._answers)

    def __len__(self):
        return len(self._answers)

    def __getitem__(self, at):
        if not 0 <= at < len(self._answers):
            raise NoRow(at)
        return self._answers[at]

    @property
    def sequence(self):
        return [place for group in self._groups for place in group]

    @property
    def done(self):
        return [place for place, answer in enumerate(self._answers) if is_done(answer)]

    @property
    def refused(self):
        return [place for place, answer in enumerate(self._answers) if is_refusal(answer)]

    @property
    def skipped(self):
        return [place for place, answer in enumerate(self._answers) if answer is None]

    @property
    def entered(self):
        return [self._requests[group[0]] for group in self._groups if is_done(self._answers[group[0]])]
