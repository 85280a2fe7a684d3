"""Pictures of plans: a text with a row for each work and each bench, drawn and seen."""

from nonebetter.errors import NoPicture
from nonebetter.facts import Facts
from nonebetter.plans import broken, choices_taken

# The signs of a name with its blanks.
WIDTH = 13


def work_row(facts, choice):
    """The row of a work that is done as the choice tells."""
    signs = ["#" if choice[2] <= day < facts.end_of(choice) else "." for day in range(facts.days)]
    return choice[0].ljust(WIDTH) + "".join(signs) + " " + choice[1]


def bench_row(facts, bench, taken):
    """The row of a bench with what the choices use of it."""
    used = [sum([facts.used_by(choice, bench, day) for choice in taken]) for day in range(facts.days)]
    return bench.ljust(WIDTH) + "".join([str(many).zfill(2) for many in used])


def drawn(book, plan):
    """The picture of a plan that is kept."""
    facts = Facts(book)
    taken = choices_taken(facts, plan)
    rows = [work_row(facts, choice) for choice in taken] + [bench_row(facts, bench, taken) for bench in facts.benches]
    return "".join([row + "\n" for row in rows])


def is_bench_row(facts, bench, row):
    """Whether a row is the bench's for some numbers of two figures."""
    figures = row[WIDTH:]
    if row[:WIDTH] != bench.ljust(WIDTH) or len(figures) != 2 * facts.days:
        return False
    return all(["0" <= sign <= "9" for sign in figures])


def choices_seen(facts, rows):
    """The choices of which the first rows are drawn; refuses the first one that is no row of its work."""
    pictures = dict([(work_row(facts, choice), choice) for choice in facts.all_choices()])
    taken = []
    for number, work in enumerate(facts.works):
        choice = pictures.get(rows[number]) if number < len(rows) else None
        if choice is None or choice[0] != work:
            raise NoPicture(number)
        taken.append(choice)
    return taken


def plan_seen(book, text):
    """The plan that is kept of which a text is the picture; refuses others with NoPicture."""
    facts = Facts(book)
    rows = text.split("\n")
    # Behind it no line end stands.
    rest = rows.pop()
    taken = choices_seen(facts, rows)
    benches = list(enumerate(facts.benches, start=len(taken)))
    count = len(taken) + len(benches)
    for number, bench in benches:
        if number >= len(rows) or not is_bench_row(facts, bench, rows[number]):
            raise NoPicture(number)
    if len(rows) > count or rest != "":
        raise NoPicture(count)
    for number, bench in benches:
        if rows[number] != bench_row(facts, bench, taken):
            raise NoPicture(number)
    plan = dict([(choice[0], choice[1:]) for choice in taken])
    if broken(book, plan) is not None:
        raise NoPicture(count)
    return plan
