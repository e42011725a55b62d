"""What the tests share: calls made from texts, and answers taken apart."""

from protesthall.desk import answers

BOOK = """book rrs
pred port 1
pred stbd 1
pred meets 2
pred clear 1
pred must 2
pred broke 1
pred heard 0
rule must(X,Y) if port(X) if stbd(Y) if meets(X,Y) differ X Y
rule broke(X) if must(X,Y) unless clear(X)
rule heard when filed <= finish + 60
valid heard
penalty broke DSQ
"""

CASE = """case one
boat Ada
boat Bo
fact port(Ada)
fact stbd(Bo)
fact meets(Ada,Bo)
number filed 100
number finish 50
"""


def row(text):
    """A text, or bytes, as a row with its count before it."""
    content = list(text.encode("latin-1") if isinstance(text, str) else text)
    return [len(content)] + content


def book(text=BOOK):
    return [0] + row(text)


def printed():
    return [1]


def layers():
    return [2]


def new_case(text=CASE):
    return [3] + row(text)


def fact(case, value, atom):
    return [4, case, value] + row(atom)


def number(case, value, name):
    return [5, case, value] + row(name)


def rule(case, which, value):
    return [6, case, which, value]


def holds(case, atom):
    return [7, case] + row(atom)


def every(case, predicate):
    return [8, case, predicate]


def proof(case, atom):
    return [9, case] + row(atom)


def check(case, numbers):
    return [10, case] + row(numbers)


def support(case, atom):
    return [11, case] + row(atom)


def penalties(case):
    return [12, case]


def suppose(case, value, atom):
    return [13, case, value] + row(atom)


def decide(case):
    return [14, case]


def stands(which):
    return [15, which]


def decision(which):
    return [16, which]


def written(case):
    return [17, case]


def counts():
    return [18]


def certificate(steps, away):
    """A certificate as proof tells it, behind its first 1 or 0."""
    return [len(steps)] + joined(steps) + [len(away)] + joined(away)


def found(predicate, first=0, second=0):
    """A fact's step."""
    return (0, predicate, first, second, 0, 0, 0)


def lines(*told):
    return "".join(line + "\n" for line in told)


def padded(text, size):
    """The text with a remark behind it that makes it this long."""
    return text + "#" * (size - len(text))


def joined(rows):
    return [value for each in rows for value in each]


def run(*calls):
    """The calls' answers, each a list; the counts in front of them must come out even."""
    handed = joined(calls)
    assert 1 <= len(calls) <= 100 and len(handed) <= 16000, "more than may be handed in"
    told = answers(handed)
    apart = []
    place = 0
    while place < len(told):
        end = place + 1 + told[place]
        assert end <= len(told)
        apart.append(told[place + 1:end])
        place = end
    assert len(apart) == len(calls)
    return apart


def last(*calls):
    """What the last of the calls answers."""
    return run(*calls)[-1]


def text(answer):
    return bytes(answer).decode("latin-1")
