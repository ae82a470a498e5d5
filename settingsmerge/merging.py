"""The jump to another release: its claims, its questions, its result and its report [11 to 16]."""

from settingsmerge.chains import all_chains
from settingsmerge.conflicts import least_cover, matching
from settingsmerge.errors import BadAnswer, NoChain, Settled, Unanswered
from settingsmerge.files import section_of
from settingsmerge.history import is_number_below
from settingsmerge.states import State, joined


def open_slots(rows, offers):
    """The ascending list of the slots whose present value is not the one that is offered."""
    return [slot for slot, row in enumerate(rows) if row[0] != offers[slot]]


def needs_between(history, slots, rows, offers):
    """The ascending list of tuples (slot, other) of these slots of which the first one needs the second one."""
    return [
        (slot, other) for slot in slots for other in slots
        if history.excluded(slot, rows[slot][0], other, offers[other])
    ]


def sides_claimed(row, offer):
    """The ascending list of the sides of the claims that an open slot has before any rule."""
    present, status, overruled = row
    sides = ["own"] if status == "own" else []
    if offer is not None and offer not in overruled:
        sides.append("shipped")
    return sides


def rule_for(rules, slot, section):
    """The rule (scope, word) that applies to a slot, None if there is none."""
    words = {scope: word for scope, word in rules}
    for scope in [("setting", slot), ("section", section), ("all", "")]:
        if scope in words:
            return (scope, words[scope])
    return None


def conflicts_between(claims, chains):
    """The ascending list of the conflicts of these claims."""
    return [(x, y) for x, y in sorted(chains) if (x, "own") in claims and (y, "shipped") in claims]


def rivals_of_claim(conflicts, claim):
    """The ascending list of the claims with which this one has a conflict."""
    slot, side = claim
    if side == "own":
        return [(y, "shipped") for x, y in conflicts if x == slot]
    return [(x, "own") for x, y in conflicts if y == slot]


class Question:
    """Asks of a claim whether it stands or falls."""

    def __init__(self, claim, present, coming, rivals):
        self.claim = claim
        self.present = present
        self.coming = coming
        # A tuple, since a question does not change.
        self.opponents = tuple(rivals)

    def falling(self, stands):
        """The ascending list of the claims that fall by this answer."""
        return list(self.opponents) if stands else [self.claim]

    def __eq__(self, other):
        return (isinstance(other, Question) and self.claim == other.claim and self.present == other.present
                and self.coming == other.coming and self.opponents == other.opponents)


class Merge:
    """A jump of a state to a release: it is asked and answered until no conflict is left."""

    def __init__(self, history, state, to):
        history.check_release(to)
        self.history = history
        self.to = to
        self.rows = state.rows
        self.rules = state.rules
        self.offers = [history.shipped_value(slot, to) for slot in range(history.slots)]
        self.opened = open_slots(self.rows, self.offers)
        self.needs_found = needs_between(history, self.opened, self.rows, self.offers)
        self.chains = all_chains(self.opened, self.needs_found)
        # From each slot of which a rule withdrew a claim to the scope of that rule.
        self.withdrawn = {}
        self.standing = []
        for slot in list(self.opened):
            self.take_claims(slot)
        self.left = conflicts_between(self.standing, self.chains)
        # For each answer the list of the conflicts that it settled.
        self.settled_by = []
        self.answers = ()
        self.cover = ()
        self.fewest = 0
        self.question = None
        self.ask()

    def take_claims(self, slot):
        """Adds the claims that an open slot has at the beginning."""
        sides = sides_claimed(self.rows[slot], self.offers[slot])
        if len(sides) == 2:
            rule = rule_for(self.rules, slot, section_of(self.history.place_of(slot, self.to)))
            if rule is not None:
                self.withdrawn[slot] = rule[0]
                sides = [rule[1]]
        self.standing = self.standing + [(slot, side) for side in sides]

    def ask(self):
        """Finds the question for the conflicts that are left."""
        self.cover = least_cover(self.left)
        self.fewest = len(self.cover)
        self.question = None
        if self.left != []:
            claim = self.cover[0]
            rivals = rivals_of_claim(self.left, claim)
            self.question = Question(claim, self.rows[claim[0]][0], self.offers[claim[0]], rivals)

    @property
    def claims(self):
        """The list of the claims that stand now."""
        return list(self.standing)

    @property
    def conflicts(self):
        """The list of the conflicts that are left now."""
        return list(self.left)

    @property
    def needs(self):
        """The list of the tuples (slot, other) of all needs."""
        return list(self.needs_found)

    def chain(self, slot, other):
        """The chain from the slot to the other one."""
        many = len(self.rows)
        if not is_number_below(slot, many) or not is_number_below(other, many) or (slot, other) not in self.chains:
            raise NoChain(slot, other)
        return self.chains[(slot, other)]

    def reply(self, stands):
        """Answers the question: True if its claim stands, False if it falls."""
        if self.left == []:
            raise Settled()
        if stands is not True and stands is not False:
            raise BadAnswer(stands)
        claim = self.cover[0]
        falling = rivals_of_claim(self.left, claim) if stands else [claim]
        self.standing = [each for each in self.standing if each not in falling]
        before = self.left
        self.left = conflicts_between(self.standing, self.chains)
        self.settled_by.append([conflict for conflict in before if conflict not in self.left])
        self.answers = self.answers + (stands,)
        self.ask()

    def check_settled(self):
        """Raises Unanswered as long as a conflict is left."""
        if self.left != []:
            raise Unanswered(self.cover[0])

    def chain_of_need(self, slot):
        """The chain by which own claims that stand need the slot, None if they do not."""
        starts = [start for start, side in self.standing if side == "own" and (start, slot) in self.chains]
        if starts == []:
            return None
        found = [self.chains[(start, slot)] for start in starts]
        return min([(len(chain), chain) for chain in found])[1]

    def row_after(self, slot):
        """The row of the slot after the jump."""
        present, status, overruled = self.rows[slot]
        offer = self.offers[slot]
        if slot not in self.opened and status != "held":
            return self.rows[slot]
        if (slot, "own") in self.standing:
            return (present, "own", joined(overruled, offer))
        # No chain leads to a slot that is not open, so a held one of these follows.
        if self.chain_of_need(slot) is not None:
            return (present, "held", joined(overruled if status == "held" else (), offer))
        return (offer, "follows", ())

    def result(self):
        """The state after the jump."""
        self.check_settled()
        return State(self.to, [self.row_after(slot) for slot in range(len(self.rows))], rules=self.rules)

    def report(self):
        """The list of tuples (slot, reason) of the slots that were open or held."""
        self.check_settled()
        told = [slot for slot, row in enumerate(self.rows) if slot in self.opened or row[1] == "held"]
        return [(slot, self.reason_for(slot)) for slot in told]

    def reason_for(self, slot):
        """The reason why the slot has its row after the jump."""
        present, status, overruled = self.rows[slot]
        if self.row_after(slot)[1] == "held":
            return ("held", self.chain_of_need(slot))
        # All conflicts of the beginning are settled by now, each one by just one answer.
        numbers = [
            number for number, conflicts in enumerate(self.settled_by)
            if any([slot in conflict for conflict in conflicts])
        ]
        if numbers != []:
            return ("answers", tuple(numbers))
        if slot in self.withdrawn:
            return ("rule", self.withdrawn[slot])
        if status == "own" and self.offers[slot] in overruled:
            return ("overruled",)
        return ("free",)

    def paper(self):
        """The least cover of the conflicts that are left, and a matching of as many of them."""
        return (self.cover, matching(self.left))
