"""What several tests hand in, and how they ask for a refusal."""

import copy
import itertools

from websbykind import errors


def nested(thing, wrap, deep):
    for _ in range(deep):
        thing = wrap(thing)
    return thing


def anything():
    """Things of every kind that DOC.md [2] names, none of them a web, a turn, a kind or a number.

    They are made anew at each call, so that a test may compare them with what they were.
    """
    great = 10 ** 30 - 1
    return [
        None, True, False, great, -great, -1,
        "", "0", "web", "(1, ())", "()", "3:",
        [], [0], [1], [0, 1], [1, []], [1, ()], [None], ["a", ["b"]],
        {}, {0: 1}, {1: ()}, {"many": 1, "ties": ()}, {0: [1, {2: 3}]},
        (None,), (True,), (False,), ("0",), ("",), ([],), ({},), ((),), (great,), (-great,), (-1,),
        (None, None), (True, ()), (1, None), (1, []), (1, {}), (1, ""), (1, True), (1, -1),
        ([], ()), ({}, ()), ("1", ()), ((), ()), ([1], [()]), (great, ()), (-1, ()),
        (3, ([0, 1],)), (3, ({0: 1},)), (3, ("01",)), (3, (None,)), (3, ((0, [1]),)), (3, (({}, 1),)),
        (3, ((0, 1), [0, 2])), (3, ((0, 1), None)), (3, ((0, "1"),)), (3, ((None, 1),)),
        ([0], [1]), ({0: 0}, {1: 1}), (0, [1]), (0, {}), (0, "1"), (0, None), (0, (1,)),
        (1, "", [None, {}]), ("a", 1, None), ([], {}, ()),
        nested(1, lambda thing: [thing], 12), nested(1, lambda thing: (thing,), 12),
        nested(1, lambda thing: {"a": thing}, 12), nested((), lambda thing: (1, thing), 11),
        nested([], lambda thing: (thing, {0: thing}), 5),
    ]


def no_numbers(most):
    """What is no whole number from 1 to most."""
    return [0, most + 1, most + 2, -1, 10 ** 30 - 1, -10 ** 30 + 1, True, False, None, "", "1", "one",
            [], [1], (), (1,), ((1,),), {}, {1: 1}]


def all_turns(many):
    return list(itertools.permutations(range(many)))


def all_pairs(many):
    return list(itertools.combinations(range(many), 2))


def all_webs(many):
    pairs = all_pairs(many)
    return [(many, ties) for length in range(len(pairs) + 1) for ties in itertools.combinations(pairs, length)]


class Refusals:
    """For a TestCase: that a question is refused with just one class, and leaves all as it was."""

    def refused(self, wanted, ask, *given):
        before = copy.deepcopy(given)
        with self.assertRaises(errors.KindError) as caught:
            ask(*given)
        self.assertIs(type(caught.exception), wanted, (ask.__name__, given))
        self.assertEqual(given, before)

    def answers_truth(self, wanted, ask, *given):
        before = copy.deepcopy(given)
        self.assertIs(ask(*given), wanted, (ask.__name__, given))
        self.assertIs(ask(*given), wanted, (ask.__name__, given))
        self.assertEqual(given, before)
