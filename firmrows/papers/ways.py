"""Looks for the ways to give integers to variables, of parts of a rule that are still open.

Parts are a tuple of three tuples: wanted patterns; barred patterns; and clauses, which are tuples of pairs
of terms, of which at least one must become different. In each of them stands a variable.
"""

from firmrows.ask.rules import names_among
from firmrows.base.patterns import put_in, put_in_terms


def parts_of_rule(rule):
    """Return the parts of a rule; its clauses are the pairs, and that no barred row is a wanted one.

    Here, and only here, there need not be a variable in each of them.
    """
    _, wanted, barred, unlike = rule
    pairs = [(pair,) for pair in unlike]
    pairs.extend([tuple(list(zip(one[1:], other[1:]))) for one in wanted for other in barred
                  if one[0] == other[0] and len(one) == len(other)])
    return (wanted, barred, tuple(pairs))


def put_in_clause(clause, table):
    """Return a clause with integers put in, without pairs that are equal; None if it surely holds."""
    left = []
    for pair in clause:
        one, other = put_in_terms(pair, table)
        if isinstance(one, int) and isinstance(other, int) and one != other:
            return None
        if one != other:
            left.append((one, other))
    return tuple(left)


def names_of_part(kind, part):
    """Return the tuple of the variables in a pattern, or in a clause if the kind is 2."""
    terms = [term for pair in part for term in pair] if kind == 2 else list(part[1:])
    return names_among(terms)


def different(values):
    """Return the tuple of the different ones of some values, in their order."""
    return tuple(list({value: True for value in values}))


def groups_of(parts):
    """Return the list of the smallest parts that have no variables in common."""
    groups = []
    for kind in range(3):
        for part in parts[kind]:
            joined = list(names_of_part(kind, part))
            apart = []
            for group in groups:
                if len([name for name in group if name in joined]) > 0:
                    joined = joined + group
                else:
                    apart.append(group)
            groups = apart + [joined]
    return [parts_with(parts, group) for group in groups]


def parts_with(parts, names):
    """Return those of the parts in which one of the variables stands."""
    return tuple([tuple([part for part in parts[kind] if names_of_part(kind, part)[0] in names]) for kind in range(3)])


class Ways:
    """What integers can be given to the variables of parts.

    A *yield* of integers is a pair of bits: those of the wanted and of the barred rows that have bits.
    A class below tells with `wanted_bits` and `barred_bits` which bits a pattern has, or None if it is not
    permitted, and with `choices` which integers a variable of a wanted pattern can be.
    """

    def __init__(self):
        self._worked = {}

    def bits_of(self, kind, pattern):
        """Return the bits of a wanted pattern, or of a barred one if the kind is 1; None if it is not permitted."""
        return self.wanted_bits(pattern) if kind == 0 else self.barred_bits(pattern)

    def rest(self, parts, table):
        """Return a pair, the yield of integers that are put in and the parts that are left, or None."""
        gained = [0, 0]
        left = [[], [], []]
        for kind in range(2):
            for part in parts[kind]:
                pattern = put_in(part, table)
                bits = self.bits_of(kind, pattern)
                if bits is None:
                    return None
                gained[kind] = gained[kind] | bits
                if len(names_of_part(kind, pattern)) > 0:
                    left[kind].append(pattern)
        for part in parts[2]:
            clause = put_in_clause(part, table)
            if clause == ():
                return None
            if clause is not None:
                left[2].append(clause)
        return (tuple(gained), tuple([different(found) for found in left]))

    def found(self, parts):
        """Return a dict from the yields of the parts to dicts, of integers that have the yield.

        If some integers yield (0, 0), it is told alone: what comes with more rows holds then anyway.
        """
        if parts not in self._worked:
            self._worked[parts] = self.worked_out(parts)
        return self._worked[parts]

    def worked_out(self, parts):
        """Return what `found` returns, when it is asked for the first time."""
        groups = groups_of(parts)
        if len(groups) == 0:
            return {(0, 0): {}}
        if len(groups) > 1:
            return self.joined(groups)
        name, numbers = self.tried_first(parts)
        every = {}
        for number in numbers:
            step = self.rest(parts, {name: number})
            if step is not None:
                (there, away), left = step
                more = self.found(left)
                for key in more:
                    every[(there | key[0], away | key[1])] = {**more[key], name: number}
                if (0, 0) in every:
                    return {(0, 0): every[(0, 0)]}
        return every

    def joined(self, groups):
        """Return what `found` returns for parts that have no variables in common, together."""
        every = {(0, 0): {}}
        for group in groups:
            more = self.found(group)
            both = [(one, other) for one in every for other in more]
            every = {(one[0] | other[0], one[1] | other[1]): {**every[one], **more[other]} for one, other in both}
        return every

    def tried_first(self, parts):
        """Return a variable with the fewest choices, and its choices.

        Of several ones it is a variable that stands in most parts, which fails soonest.
        """
        names = [name for kind in range(3) for part in parts[kind] for name in names_of_part(kind, part)]
        best = None
        for pattern in parts[0]:
            for name in names_of_part(0, pattern):
                numbers = self.choices(pattern, name)
                rank = (len(numbers), -names.count(name))
                if best is None or rank < best[0]:
                    best = (rank, name, numbers)
        return best[1:]
