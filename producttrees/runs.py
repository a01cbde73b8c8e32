"""Runs: consecutive ranges of a sequence that all have the same idempotent product."""

from producttrees.errors import InvalidCertificate, InvalidInteger, InvalidSequence, TooMany
from producttrees.levels import height_bound
from producttrees.tables import LARGEST_TABLE, LONGEST_SEQUENCE, check_sequence, check_table
from producttrees.trees import multiplied
from producttrees.validation import is_integer, is_list, is_number_below, is_number_list

_SHORTEST_RUN = 2
_LONGEST_RUN = 6
_MOST_STATES = 1000


def is_run(table, sequence, value):
    """Tell whether the value is a run of the sequence."""
    check_table(table)
    check_sequence(table, sequence)
    if not isinstance(value, tuple) or len(value) != 2:
        return False
    element, places = value
    if not is_number_below(element, len(table)) or element not in table.idempotents():
        return False
    count = len(sequence) + 1
    if not is_number_list(places, _SHORTEST_RUN + 1, count, count):
        return False
    rows = table.rows()
    for low, high in zip(places, places[1:]):
        if low >= high or multiplied(rows, sequence[low:high]) != element:
            return False
    return True


def find_run(table, sequence, count):
    """Return a run of this length whose last place is the smallest possible one, or None."""
    check_table(table)
    check_sequence(table, sequence)
    _check_count(count)
    idempotents = table.idempotents()
    steps = StateSteps(table)
    state = steps.empty()
    # For each place and each idempotent, the greatest number of ranges with this product up to there.
    endings = [steps.endings(state)]
    for place, element in enumerate(sequence):
        state = steps.following(state, element)
        endings.append(steps.endings(state))
        if max(endings[-1]) >= count:
            at = endings[-1].index(max(endings[-1]))
            reached = [row[at] for row in endings]
            return (idempotents[at], _places_up_to(table, sequence[:place + 1], idempotents[at], count, reached))
    return None


def run_state(table, sequence):
    """Return the run state that the elements of the sequence reach; the sequence may be empty."""
    check_table(table)
    if not is_number_list(sequence, 0, LONGEST_SEQUENCE, len(table)):
        raise InvalidSequence(sequence)
    steps = StateSteps(table)
    state = steps.empty()
    for element in sequence:
        state = steps.following(state, element)
    return state


def longest_run_free(table, alphabet, count, *, limit=300):
    """Return a longest sequence over the alphabet without a run of this length, and the certificate that shows it."""
    check_table(table)
    _check_alphabet(table, alphabet)
    _check_count(count)
    if not is_integer(limit) or not 1 <= limit <= _MOST_STATES:
        raise InvalidInteger(limit)
    steps = StateSteps(table)
    free = _free_steps(steps, alphabet, count, limit)
    remaining = _longest_ways(free)
    sequence = []
    state = steps.empty()
    while remaining[state] > 0:
        element, state = [step for step in free[state] if remaining[step[1]] == remaining[state] - 1][0]
        sequence.append(element)
    return sequence, sorted([(state, remaining[state]) for state in free])


def first_certificate_error(table, alphabet, count, certificate):
    """Return the kind and the index of the first error of a certificate, or None."""
    check_table(table)
    _check_alphabet(table, alphabet)
    _check_count(count)
    if not _is_certificate(table, certificate):
        raise InvalidCertificate(certificate)
    steps = StateSteps(table)
    remaining = {state: number for state, number in certificate}
    if steps.empty() not in remaining:
        return ("start", 0)
    for index, (state, number) in enumerate(certificate):
        for _, after in steps.free_steps(state, alphabet, count):
            if remaining.get(after, number) >= number:
                return ("next", index)
    return None


def run_free_bound(table, count):
    """Return a length that no sequence without a run of this length exceeds."""
    check_table(table)
    _check_count(count)
    bound = 1
    for _ in range(height_bound(table)):
        bound *= max(count - 1, 2)
    return bound


class StateSteps:
    """The run states of a table, and the steps from one to the next."""

    def __init__(self, table):
        self._rows = table.rows()
        self._idempotents = table.idempotents()

    def empty(self):
        """Return the empty state."""
        return tuple([(0, tuple([-1 for _ in self._rows])) for _ in self._idempotents])

    def endings(self, state):
        """Return the endings of a state, in the order of the idempotents."""
        return [ending for ending, _ in state]

    def following(self, state, element):
        """Return the next state after an element."""
        made = [row[element] for row in self._rows]
        after = []
        for idempotent, (ending, counts) in zip(self._idempotents, state):
            greatest = [-1] * len(counts)
            greatest[element] = ending
            for product, count in zip(made, counts):
                greatest[product] = max(greatest[product], count)
            after.append((greatest[idempotent] + 1, tuple(greatest)))
        return tuple(after)

    def free_steps(self, state, alphabet, count):
        """Return each element of the alphabet that completes no run of this length, with the next state after it."""
        found = [(element, self.following(state, element)) for element in alphabet]
        return [(element, after) for element, after in found if max(self.endings(after)) < count]


def _places_up_to(table, sequence, element, count, endings):
    """Return the places of a run of the element that ends with the sequence; its endings are those at each place."""
    rows = table.rows()
    places = [len(sequence)]
    for before in reversed(range(count)):
        start = places[0] - 1
        held = sequence[start]
        while held != element or endings[start] < before:
            start -= 1
            held = rows[sequence[start]][held]
        places = [start] + places
    return places


def _free_steps(steps, alphabet, count, limit):
    """Return a dict from the states that sequences without such a run reach to their steps without one."""
    empty = steps.empty()
    free = {}
    found = {empty: True}
    waiting = [empty]
    while waiting:
        state = waiting.pop()
        free[state] = steps.free_steps(state, alphabet, count)
        for _, after in free[state]:
            if after in found:
                continue
            if len(found) == limit:
                raise TooMany(limit + 1)
            found[after] = True
            waiting.append(after)
    return free


def _longest_ways(free):
    """Return, for each state, the greatest number of steps from it; no way comes to a state again."""
    before = {state: [] for state in free}
    for state, row in free.items():
        for _, after in row:
            before[after].append(state)
    # A state is done when all that its steps lead to are done.
    missing = {state: len(row) for state, row in free.items()}
    longest = {state: 0 for state in free}
    done = [state for state in free if missing[state] == 0]
    while done:
        after = done.pop()
        for state in before[after]:
            longest[state] = max(longest[state], longest[after] + 1)
            missing[state] -= 1
            if missing[state] == 0:
                done.append(state)
    return longest


def _check_count(count):
    """Raise an error unless the value is the length of a run that may be asked for."""
    if not is_integer(count) or not _SHORTEST_RUN <= count <= _LONGEST_RUN:
        raise InvalidInteger(count)


def _check_alphabet(table, alphabet):
    """Raise an error unless the value is a list of different elements."""
    if not is_number_list(alphabet, 1, LARGEST_TABLE, len(table)) or len(set(alphabet)) < len(alphabet):
        raise InvalidSequence(alphabet)


def _is_certificate(table, certificate):
    """Tell whether the value has the form of a certificate."""
    if not is_list(certificate, 0, _MOST_STATES) or not all([_is_item(table, item) for item in certificate]):
        return False
    return len({item[0] for item in certificate}) == len(certificate)


def _is_item(table, item):
    """Tell whether the value is a tuple of what is formed as a run state, and of an integer of at least 0."""
    if not isinstance(item, tuple) or len(item) != 2:
        return False
    state, remaining = item
    if not isinstance(state, tuple) or len(state) != len(table.idempotents()):
        return False
    return all([_is_state_part(len(table), part) for part in state]) and is_integer(remaining) and remaining >= 0


def _is_state_part(size, part):
    """Tell whether the value is formed as the item of a run state for one idempotent."""
    if not isinstance(part, tuple) or len(part) != 2:
        return False
    ending, counts = part
    if not is_integer(ending) or ending < 0 or not isinstance(counts, tuple) or len(counts) != size:
        return False
    return all([is_integer(count) and count >= -1 for count in counts])
