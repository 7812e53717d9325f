"""What several tests hand in, and how they ask for a refusal."""

import copy
import itertools

from websbykind import errors


def nested(thing, wrap, deep):
    for _ in range(deep):
        thing = wrap(thing)
    return thing


def anything():
    """Things of every kind that DOC.md [2] names, none of them a web, a turn, a kind or a number.

    They are made anew at each call, so that a test may compare them with what they were.
    """
    great = 10 ** 30 - 1
    return [
        None, True, False, great, -great, -1,
        "", "0", "web", "(1, ())", "()", "3:",
        [], [0], [1], [0, 1], [1, []], [1, ()], [None], ["a", ["b"]],
        {}, {0: 1}, {1: ()}, {"many": 1, "ties": ()}, {0: [1, {2: 3}]},
        (None,), (True,), (False,), ("0",), ("",), ([],), ({},), ((),), (great,), (-great,), (-1,),
        (None, None), (True, ()), (1, None), (1, []), (1, {}), (1, ""), (1, True), (1, -1),
        ([], ()), ({}, ()), ("1", ()), ((), ()), ([1], [()]), (great, ()), (-1, ()),
        (3, ([0, 1],)), (3, ({0: 1},)), (3, ("01",)), (3, (None,)), (3, ((0, [1]),)), (3, (({}, 1),)),
        (3, ((0, 1), [0, 2])), (3, ((0, 1), None)), (3, ((0, "1"),)), (3, ((None, 1),)),
        ([0], [1]), ({0: 0}, {1: 1}), (0, [1]), (0, {}), (0, "1"), (0, None), (0, (1,)),
        (1, "", [None, {}]), ("a", 1, None), ([], {}, ()),
        nested(1, lambda thing: [thing], 12), nested(1, lambda thing: (thing,), 12),
        nested(1, lambda thing: {"a": thing}, 12), nested((), lambda thing: (1, thing), 11),
        nested([], lambda thing: (thing, {0: thing}), 5),
    ]


def no_numbers(most):
    """What is no whole number from 1 to most."""
    return [0, most + 1, most + 2, -1, 10 ** 30 - 1, -10 ** 30 + 1, True, False, None, "", "1", "one",
            [], [1], (), (1,), ((1,),), {}, {1: 1}]


NO_WEBS = [
    (0, ()), (7, ()), (-1, ()), (True, ()), (False, ()), (10 ** 30 - 1, ()),
    (3, ((0, 2), (0, 1))), (3, ((1, 2), (0, 2))), (3, ((0, 1), (0, 1))), (3, ((0, 1), (1, 2), (0, 2))),
    (3, ((0, 1), (1, 2), (1, 2))),
    (3, ((1, 0),)), (3, ((0, 1), (2, 1))), (3, ((1, 1),)), (3, ((0, 0),)), (1, ((0, 0),)),
    (3, ((0, 3),)), (3, ((3, 4),)), (3, ((-1, 0),)), (1, ((0, 1),)), (6, ((0, 6),)), (6, ((-1, 5),)),
    (3, ((False, True),)), (3, ((0, True),)), (3, ((False, 1),)), (3, ((True, 2),)),
    [3, ((0, 1),)], (3, [(0, 1)]), (3, ([0, 1],)), (3, ((0, 1), [0, 2])), (3, ()) + ((),),
    (3,), (3, (), ()), (), ((0, 1), 3), (3, (0, 1)), (3, ((0, 1, 2),)), (3, ((0,),)), (3, ((),)),
    (3, ((0, 1), ())), (3, (((0, 1),),)), (3, ((0, 1), (0, 2, 1))),
    3, "3", "3: 0-1", {3: ((0, 1),)}, ((3, ((0, 1),)),), ("3", ()), (3, ""), (3, None), (3, {}), (3, {(0, 1): 1}),
]


# Figures of other scripts, raised and ringed ones: Python takes some of them for figures.
OTHER_FIGURES = ["\u0663", "\u0967", "\uff13", "\u00b2", "\u2462", "\u0e53"]


def no_webs():
    return NO_WEBS + anything()


def no_turns(many):
    """What is no turn of so many, from near to far."""
    names = tuple(range(many))
    return [
        names + (many,), names + (0,), names[1:], names[:-1], tuple(name + 1 for name in names),
        (0,) * (many + 1), names[:-1] + (-1,), names[:-1] + (many,), names[:-1] + (str(many - 1),),
        names[:-1] + (None,), names[:-1] + ([many - 1],), names[:-1] + ({},), names[:-1] + ((many - 1,),),
        (False,) + names[1:], list(names), {name: name for name in names}, "".join(str(name) for name in names),
        (names,), [names], (),
    ] + [(0,) * many, names[:-1] + (names[-2:-1] or (1,)), (0, True) + names[2:]][:3 if many > 1 else 0]


def no_turns_at_all(many):
    return no_turns(many) + anything()


def no_kinds(many):
    """What is no kind of so many, from near to far."""
    return [
        (), (0,), (many, 0), (0, many), (many + 1,), (many - 1,), (many, 1), (many + 1, -1), (-many,), (-1, many + 1),
        (True,) * many, (many - 1, True), (1,) * (many + 1), (1,) * (many - 1), [many], [1] * many,
        (str(many),), str(many), many, {many: 1}, ((many,),), ([many],), ({},), (None,), (many, None), (many, []),
        (many, ""), (10 ** 30 - 1,), (10 ** 30 - 1, many - 10 ** 30 + 1), (1, many),
    ] + [(1, many - 1)] * (many > 2)


def no_kinds_at_all(many):
    return no_kinds(many) + anything()


def kinds_by_cuts(many):
    """The kinds of so many, got by cutting a row of so many wherever it may be cut."""
    found = set()
    for cuts in itertools.product([False, True], repeat=many - 1):
        lengths = [1]
        for cut in cuts:
            if cut:
                lengths.append(1)
            else:
                lengths[-1] += 1
        found.add(tuple(sorted(lengths, reverse=True)))
    return sorted(found)


def all_turns(many):
    return list(itertools.permutations(range(many)))


def all_pairs(many):
    return list(itertools.combinations(range(many), 2))


def all_webs(many):
    pairs = all_pairs(many)
    return [(many, ties) for length in range(len(pairs) + 1) for ties in itertools.combinations(pairs, length)]


def all_counts(many):
    """All counts of so many places, whether a web has them or none."""
    return list(itertools.combinations_with_replacement(range(many - 1, -1, -1), many))


def counts_by_ties(web):
    """To how many places each place of a web is tied, in the places' order."""
    ends = [place for tie in web[1] for place in tie]
    return tuple(ends.count(place) for place in range(web[0]))


def some_webs(many):
    """Webs of so many places: all of few; of many each so manieth, with those without a tie and with all."""
    webs = all_webs(many)
    return webs[::{5: 7, 6: 331}.get(many, 1)] + webs[-1:]


def pieces_by_ties(web):
    """The places of each piece, got by putting together the pieces of each tie's ends."""
    pieces = [{place} for place in range(web[0])]
    for a, b in web[1]:
        one, other = [piece for place in (a, b) for piece in pieces if place in piece]
        if one is not other:
            pieces.remove(other)
            one |= other
    return [sorted(piece) for piece in pieces]


def refusing_row(ask, given):
    """The row of ask from which a question is refused."""
    try:
        ask(*given)
    except errors.KindError as refusal:
        return refusal.__traceback__.tb_next.tb_lineno


class Refusals:
    """For a TestCase: that a question is refused with just one class, and leaves all as it was."""

    def refused(self, wanted, ask, *given):
        before = copy.deepcopy(given)
        with self.assertRaises(errors.KindError) as caught:
            ask(*given)
        self.assertIs(type(caught.exception), wanted, (ask.__name__, given))
        self.assertEqual(given, before)
        return caught.exception

    def too_great(self, many, most, ask, *given):
        refusal = self.refused(errors.TooGreat, ask, *given)
        self.assertEqual((refusal.many, refusal.most), (many, most), (ask.__name__, given))

    def first_goes_ahead(self, ask, both, first, second):
        """That of two refusals of one class the first one's goes ahead: told by the row of ask that refuses."""
        rows = [refusing_row(ask, given) for given in [both, first, second]]
        self.assertEqual(rows[0], rows[1])
        self.assertLess(rows[0], rows[2])

    def answers_truth(self, wanted, ask, *given):
        before = copy.deepcopy(given)
        self.assertIs(ask(*given), wanted, (ask.__name__, given))
        self.assertIs(ask(*given), wanted, (ask.__name__, given))
        self.assertEqual(given, before)
