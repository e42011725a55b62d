"""The desk: calls are handed in as one list of numbers, and answered as one."""

from protesthall.books import Book, layers_of, write_book
from protesthall.cases import MOST_FACTS, MOST_NUMBERS, MOST_VALUE, Case, suppose_fact, write_case
from protesthall.checks import first_wrong, read_certificate
from protesthall.holding import counting_instances, known_atoms
from protesthall.penalties import tell_penalties
from protesthall.proofs import found_facts, make_certificate
from protesthall.texts import MOST_BYTES, bytes_of, is_name, signs_of, wrong_line

MOST_CASES = 6
MOST_DECISIONS = 20
NO_BOOK = -1
NO_CASE = -2
NO_ATOM = -3
NO_ROOM = -4
SO_ALREADY = -5
NO_RULE = -6
NO_DECISION = -7
TOO_LONG = -8
NO_CERTIFICATE = -9
OUT_OF_RANGE = -10
WRONG_TEXT = -1000


class Decision:
    """A case's number, and what was told of its penalties when it was decided."""

    def __init__(self, number, kept):
        self.number = number
        self.kept = kept


class Desk:
    """The book, None before the first, its cases and the decisions in them."""

    def __init__(self):
        self.book = None
        self.cases = []
        self.decisions = []

    def find_case(self, number):
        """The case of this number, None if there's none."""
        if 1 <= number <= len(self.cases):
            return self.cases[number - 1]
        return None

    def find_decision(self, number):
        """The decision of this number, None if there's none."""
        if 1 <= number <= len(self.decisions):
            return self.decisions[number - 1]
        return None

    def known(self, case):
        """What holds in the case."""
        return known_atoms(self.book, case, counting_instances(self.book, case))


def answer_book(desk, numbers, row):
    if len(row) > MOST_BYTES:
        return [TOO_LONG]
    book = Book()
    wrong = wrong_line(row, book)
    if wrong > 0:
        return [WRONG_TEXT - wrong]
    desk.book = book
    desk.cases = []
    desk.decisions = []
    return [len(book.predicates), len(book.rules)]


def answer_print(desk, numbers, row):
    return bytes_of(write_book(desk.book))


def answer_layers(desk, numbers, row):
    return layers_of(desk.book)


def answer_new_case(desk, numbers, row):
    if len(row) > MOST_BYTES:
        return [TOO_LONG]
    if len(desk.cases) == MOST_CASES:
        return [NO_ROOM]
    case = Case(desk.book.predicates)
    wrong = wrong_line(row, case)
    if wrong > 0:
        return [WRONG_TEXT - wrong]
    desk.cases.append(case)
    return [len(desk.cases)]


def answer_fact(desk, numbers, row):
    case = desk.find_case(numbers[0])
    if case is None:
        return [NO_CASE]
    if numbers[1] not in (0, 1):
        return [OUT_OF_RANGE]
    atom = case.find_atom(signs_of(row))
    if atom is None:
        return [NO_ATOM]
    if (atom in case.facts) == (numbers[1] == 1):
        return [SO_ALREADY]
    if numbers[1] == 0:
        case.facts.remove(atom)
    elif len(case.facts) == MOST_FACTS:
        return [NO_ROOM]
    else:
        case.facts.append(atom)
    return [len(case.facts)]


def answer_number(desk, numbers, row):
    case = desk.find_case(numbers[0])
    if case is None:
        return [NO_CASE]
    if not 0 <= numbers[1] <= MOST_VALUE:
        return [OUT_OF_RANGE]
    name = signs_of(row)
    if not is_name(name):
        return [NO_ATOM]
    if name not in case.numbers and len(case.numbers) == MOST_NUMBERS:
        return [NO_ROOM]
    before = case.numbers.get(name, 0)
    case.numbers[name] = numbers[1]
    return [before]


def answer_rule(desk, numbers, row):
    case = desk.find_case(numbers[0])
    if case is None:
        return [NO_CASE]
    if not 1 <= numbers[1] <= len(desk.book.rules):
        return [NO_RULE]
    if numbers[2] not in (0, 1):
        return [OUT_OF_RANGE]
    if (numbers[1] in case.idle) == (numbers[2] == 0):
        return [SO_ALREADY]
    if numbers[2] == 0:
        case.idle[numbers[1]] = True
    else:
        case.idle.pop(numbers[1])
    return [0]


def answer_holds(desk, numbers, row):
    case = desk.find_case(numbers[0])
    if case is None:
        return [NO_CASE]
    atom = case.find_atom(signs_of(row))
    if atom is None:
        return [NO_ATOM]
    return [1 if atom in desk.known(case) else 0]


def answer_every(desk, numbers, row):
    case = desk.find_case(numbers[0])
    if case is None:
        return [NO_CASE]
    if not 1 <= numbers[1] <= len(desk.book.predicates):
        return [NO_RULE]
    atoms = sorted([atom for atom in desk.known(case) if atom[0] == numbers[1]])
    return [len(atoms)] + joined([atom[1:] for atom in atoms])


def answer_proof(desk, numbers, row):
    case = desk.find_case(numbers[0])
    if case is None:
        return [NO_CASE]
    atom = case.find_atom(signs_of(row))
    if atom is None:
        return [NO_ATOM]
    certificate = make_certificate(desk.book, case, atom)
    value = 0 if atom in certificate.away else 1
    return [value] + counted(certificate.steps) + counted(certificate.away)


def answer_check(desk, numbers, row):
    case = desk.find_case(numbers[0])
    if case is None:
        return [NO_CASE]
    certificate = read_certificate(row)
    if certificate is None:
        return [NO_CERTIFICATE]
    return [first_wrong(desk.book, case, certificate)]


def answer_support(desk, numbers, row):
    case = desk.find_case(numbers[0])
    if case is None:
        return [NO_CASE]
    atom = case.find_atom(signs_of(row))
    if atom is None:
        return [NO_ATOM]
    certificate = make_certificate(desk.book, case, atom)
    return counted(found_facts(certificate)) + counted(certificate.away)


def answer_penalties(desk, numbers, row):
    case = desk.find_case(numbers[0])
    if case is None:
        return [NO_CASE]
    return tell_penalties(desk.book, case)


def answer_suppose(desk, numbers, row):
    case = desk.find_case(numbers[0])
    if case is None:
        return [NO_CASE]
    if numbers[1] not in (0, 1):
        return [OUT_OF_RANGE]
    atom = case.find_atom(signs_of(row))
    if atom is None:
        return [NO_ATOM]
    return tell_penalties(desk.book, suppose_fact(case, numbers[1], atom))


def answer_decide(desk, numbers, row):
    case = desk.find_case(numbers[0])
    if case is None:
        return [NO_CASE]
    if len(desk.decisions) == MOST_DECISIONS:
        return [NO_ROOM]
    desk.decisions.append(Decision(numbers[0], tell_penalties(desk.book, case)))
    return [len(desk.decisions)]


def answer_stands(desk, numbers, row):
    decision = desk.find_decision(numbers[0])
    if decision is None:
        return [NO_DECISION]
    told = tell_penalties(desk.book, desk.find_case(decision.number))
    return [1 if told == decision.kept else 0]


def answer_decision(desk, numbers, row):
    decision = desk.find_decision(numbers[0])
    if decision is None:
        return [NO_DECISION]
    return [decision.number] + decision.kept


def answer_case(desk, numbers, row):
    case = desk.find_case(numbers[0])
    if case is None:
        return [NO_CASE]
    return bytes_of(write_case(case))


def answer_counts(desk, numbers, row):
    return [len(desk.book.predicates), len(desk.book.rules), len(desk.cases), len(desk.decisions)]


def counted(rows):
    """How many rows there are, then their numbers."""
    return [len(rows)] + joined(rows)


def joined(rows):
    """The numbers of the rows, one behind another."""
    numbers = []
    for row in rows:
        numbers.extend(row)
    return numbers


# By each call's number: what answers it, how many whole numbers it has, and whether a row stands behind them.
ANSWERERS = (answer_book, answer_print, answer_layers, answer_new_case, answer_fact,
             answer_number, answer_rule, answer_holds, answer_every, answer_proof,
             answer_check, answer_support, answer_penalties, answer_suppose, answer_decide,
             answer_stands, answer_decision, answer_case, answer_counts)
WHOLE_NUMBERS = (0, 0, 0, 0, 2, 2, 3, 1, 2, 1, 1, 1, 1, 2, 1, 1, 1, 1, 0)
HAS_ROW = (True, False, False, True, True, True, False, True, False, True,
           True, True, False, True, False, False, False, False, False)


def answer_call(desk, call, numbers, row):
    if call != 0 and desk.book is None:
        return [NO_BOOK]
    answerer = ANSWERERS[call]
    return answerer(desk, numbers, row)


def answers(calls):
    """For each of the calls, on one new desk, how many numbers are answered, then they."""
    desk = Desk()
    told = []
    place = 0
    while place < len(calls):
        call = calls[place]
        after = place + 1 + WHOLE_NUMBERS[call]
        numbers = calls[place + 1:after]
        row = []
        if HAS_ROW[call]:
            row = calls[after + 1:after + 1 + calls[after]]
            after = after + 1 + len(row)
        answer = answer_call(desk, call, numbers, row)
        told.append(len(answer))
        told.extend(answer)
        place = after
    return told
