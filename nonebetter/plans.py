"""Plans of books: what they cost, and what breaks them."""

from nonebetter.facts import Facts
from nonebetter.kinds import is_pair, is_whole


def choices_taken(facts, plan):
    """The choices of a plan that has just the book's works, in the book's order."""
    return [(work,) + plan[work] for work in facts.works]


def cost_of_plan(book, plan):
    """What the plan costs."""
    facts = Facts(book)
    return sum([facts.price_of(choice) for choice in choices_taken(facts, plan)])


def is_as_told(facts, work, thing):
    """Whether a thing is a way of the work and a day on which it may begin so that it ends in time."""
    # A list in the place of the way cannot be looked up.
    if not is_pair(thing) or not isinstance(thing[0], str) or not facts.is_way(work, thing[0]):
        return False
    return is_whole(thing[1]) and 0 <= thing[1] <= facts.last_begin(work, thing[0])


def wrong_works(facts, plan):
    """Works of the book that lack or are not as told, and then those that are none."""
    wrong = [work for work in facts.works if not is_as_told(facts, work, plan.get(work))]
    return [("work", work) for work in wrong + [work for work in sorted(plan) if work not in facts.works]]


def wrong_rooms(facts, taken):
    """Benches and days on which the choices use more than the room."""
    wrong = []
    for bench in facts.benches:
        for day in range(facts.days):
            if sum([facts.used_by(choice, bench, day) for choice in taken]) > facts.room_of(bench, day):
                wrong.append(("room", bench, day))
    return wrong


def wrong_stores(facts, taken):
    """Stores and days on which the choices leave less than nothing in it, or more than it has room for."""
    wrong = []
    for store, most, first in facts.stores:
        for day in range(facts.days + 1):
            if not 0 <= first + sum([facts.gain_by(choice, store, day) for choice in taken]) <= most:
                wrong.append(("store", store, day))
    return wrong


def wrong_afters(facts, taken):
    """Works of which the second begins too early behind the end of the first."""
    ends = dict([(choice[0], facts.end_of(choice)) for choice in taken])
    begins = dict([(choice[0], choice[2]) for choice in taken])
    return [("after", work, other) for work, other, gap in facts.afters if begins[other] < ends[work] + gap]


def broken(book, plan):
    """The first thing that breaks the plan, or None where it is kept."""
    facts = Facts(book)
    wrong = wrong_works(facts, plan)
    # What the works do is known only where all of them are there as told.
    if len(wrong) == 0:
        taken = choices_taken(facts, plan)
        wrong = wrong_rooms(facts, taken) + wrong_stores(facts, taken) + wrong_afters(facts, taken)
    return wrong[0] if len(wrong) > 0 else None
