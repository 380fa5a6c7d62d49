"""[5] to [14] over several modules, and what [3] and [4] say of the whole program."""

import copy
import unittest
from itertools import product

from factflows.analyses import Analysis
from factflows.best import are_meanings, best_of
from factflows.book import Book
from factflows.contexts import context_of
from factflows.desk import Desk
from factflows.errors import FlowError, NoPlace, NoStatement, Refused, TooMany, Unlike
from factflows.exact import exact_of, exactness
from factflows.facts import facts_of, is_solution
from factflows.follows import follow_of, is_within
from factflows.joins import Joins, all_joins, chain_joins, rising_maps, union_joins
from factflows.least import least_of, onto
from factflows.likes import least_form, same_values
from factflows.losses import loss_of, losing_program
from factflows.machines import Machine, collecting, states_at
from factflows.mirrors import mirror_of, word_mirror
from factflows.notation import (read_analysis, read_log, read_program, show_analysis, show_deed, show_log, show_program)
from factflows.pairs import are_alike, is_closed, made_program, pair_layers, pair_list
from factflows.parting import is_parting, parting_of, word_parting
from factflows.paths import lost, path_fact, path_values, word_to
from factflows.patterns import has_pattern, pattern_of, shown_program
from factflows.programs import Program, line_program
from factflows.rises import is_rise, rise_of
from factflows.small import are_like_places, small_program
from factflows.sound import are_sound_pairs, is_unsound, just_for, sound_for
from factflows.words import compare_words, has_word
from tests.helper import (Dice, has_loop, keeping_analysis, known_example, longest_path, odd_values, parity, raised,
                          some_analyses, some_analysis, some_program, some_programs, some_soundness, stays, toggle)
from tests.test_best import some_trials
from tests.test_book import some_deed
from tests.test_exchanged import CHANGES, moved_machine, moved_set, renamed_machine
from tests.test_losses import losing_trials

NAMES = ["a", "b"]


def is_below(analysis, fact, other):
    return analysis.joins.is_below(fact, other)


def both_statements(one, other):
    return sorted(set(one.statements() + other.statements()))


class FactsTest(unittest.TestCase):
    """[5]"""

    def test_deeds_that_add_and_take_out(self):
        dice, changes = Dice(990), 0
        for _ in range(60):
            book = Book(some_analysis(dice, NAMES))
            for _ in range(40):
                deed = some_deed(dice, book.program().places, book.program().edges())
                try:
                    told = book.do(deed)
                except FlowError:
                    continue
                for _, before, after in told:
                    low, high = (before, after) if deed[0] in ("edge", "begin") else (after, before)
                    self.assertTrue(low is None or is_below(book.analysis(), low, high))
                    changes += low is not None
        self.assertGreater(changes, 50)

    def test_further_edges_and_begin_places(self):
        dice = Dice(991)
        for _ in range(150):
            analysis, program = some_analysis(dice, NAMES), some_program(dice, NAMES)
            more = program.with_edges([(dice.below(program.places), dice.pick(NAMES), dice.below(program.places))])
            more = more.with_begins([dice.below(program.places)] if dice.below(2) else [])
            facts, others = facts_of(analysis, program), facts_of(analysis, more)
            for place in program.reached():
                self.assertTrue(is_below(analysis, facts[place], others[place]))
                # What is within a place stays so, and so do its words.
                self.assertTrue(is_within(program, place, more, place))
                self.assertEqual(compare_words(program, place, more, place)[0], "within")
            self.assertTrue(is_rise(analysis, more, rise_of(analysis, more)))


class AllAnalysesTest(unittest.TestCase):
    """[6] and [7]"""

    def test_within_just_where_no_analysis_parts(self):
        dice, counts = Dice(992), {True: 0, False: 0}
        for _, one, other in some_programs(993, 120, 4):
            names = both_statements(one, other)
            pairs = follow_of(one, other)
            mirror, sets = mirror_of(other, names)
            facts, its = facts_of(mirror, one), facts_of(mirror, other)
            for place, there in product(one.reached(), other.reached()):
                within = is_within(one, place, other, there)
                counts[within] += 1
                self.assertIs((place, there) in pairs, within)
                self.assertIs(there in sets[facts[place]], within)
                self.assertIs(is_below(mirror, facts[place], its[there]), within)
                pattern = pattern_of(one, place, other, there)
                self.assertIs(pattern is None, within)
                self.assertIs(parting_of(one, place, other, there) is None, within)
                if within:
                    self.assertIs(is_parting(one, place, other, there, some_analysis(dice, names)), False)
                else:
                    self.assertEqual([has_pattern(one, place, pattern), has_pattern(other, there, pattern)], [True, False])
                    program, at = shown_program(one, place, other, there)
                    self.assertEqual([is_within(program, at, one, place), is_within(program, at, other, there)], [True, False])
        self.assertGreater(min(counts.values()), 150)

    def test_words_just_where_no_analysis_that_keeps_joins_parts(self):
        dice, counts = Dice(994), {True: 0, False: 0}
        for _, one, other in some_programs(995, 120, 4):
            names = both_statements(one, other)
            for place, there in product(one.reached(), other.reached()):
                told = compare_words(one, place, other, there)
                within = told[0] == "within"
                counts[within] += 1
                if is_within(one, place, other, there):
                    self.assertTrue(within)
                if within:
                    self.assertIsNone(word_parting(one, place, other, there))
                    self.assertIs(is_parting(one, place, other, there, keeping_analysis(dice, names)), False)
                    exact = self.exact(dice, names)
                    self.assertIs(is_parting(one, place, other, there, exact), False)
                else:
                    self.assertEqual([has_word(one, place, told[1]), has_word(other, there, told[1])], [True, False])
                    if len(told[1]) < 6:
                        parting = word_parting(one, place, other, there)
                        self.assertIsNone(parting.unkept())
                        self.assertIs(is_parting(one, place, other, there, parting), True)
        self.assertGreater(min(counts.values()), 150)

    def exact(self, dice, names):
        while True:
            try:
                return exact_of(some_analysis(dice, names))[0]
            except TooMany:
                pass

    def test_facts_are_path_facts_where_joins_are_kept(self):
        dice = Dice(996)
        for _ in range(80):
            analysis, program = keeping_analysis(dice, NAMES), some_program(dice, NAMES)
            self.assertEqual(lost(analysis, program), [])
            self.assertEqual(loss_of(analysis)[0], "keeps")
            machine = Machine(3, [0], {name: [(dice.below(3), dice.below(3)) for _ in range(4)] for name in NAMES})
            self.assertEqual(lost(collecting(machine)[0], program), [])


class AllProgramsTest(unittest.TestCase):
    """[8]"""

    def test_the_pairs_are_just_those_of_programs(self):
        for dice, one, _, other, _ in some_analyses(997, 80, 5):
            pairs, layers = pair_list(one, other), pair_layers(one, other)
            self.assertTrue(is_closed(one, other, pairs))
            self.assertEqual(sorted(pair for layer in layers for pair in layer), pairs)
            for _ in range(3):
                program = some_program(dice, ["a", "b"])
                facts = zip(facts_of(one, program), facts_of(other, program))
                self.assertTrue({pair for pair in facts if pair != (None, None)} <= set(pairs))
            for at, layer in enumerate(layers):
                pair = dice.pick(layer)
                program, place = made_program(one, other, pair)
                self.assertFalse(has_loop(program))
                self.assertLessEqual(longest_path(program), at)
                self.assertEqual((facts_of(one, program)[place], facts_of(other, program)[place]), pair)

    def test_the_facts_by_the_product(self):
        for _, one, _, other, _ in some_analyses(998, 60, 5):
            if len(one) * len(other) <= 64:
                both = one * other
                self.assertEqual([divmod(value, len(other)) for value in both.coming()], pair_list(one, other))


class LeastAnalysesTest(unittest.TestCase):
    """[9]"""

    def test_the_fewest_values(self):
        for dice, one, mine, other, its in some_analyses(999, 120, 5):
            least, answers, _ = least_of(one, mine)
            self.assertEqual(are_alike(one, mine, least, answers)[0], "alike")
            alike = are_alike(one, mine, other, its)[0] == "alike"
            self.assertIs(least_form(one, mine) == least_form(other, its), alike)
            self.assertIs(same_values(one, mine, other, its) is not None, alike)
            if not alike:
                raised(self, Unlike, lambda: onto(one, mine, other, its))
                continue
            self.check_onto(one, mine, *self.all_coming(other, its))

    def test_analyses_with_more_values(self):
        dice = Dice(1000)
        for _, one, mine, _, _ in some_analyses(1001, 60, 4):
            beside = some_analysis(dice, one.statements(), 4)
            if len(one) * len(beside) > 64:
                continue
            both = one * beside
            its = [mine[value // len(beside)] for value in range(len(both))]
            self.assertEqual(least_form(both, its), least_form(one, mine))
            self.check_onto(one, mine, *self.all_coming(both, its))

    def all_coming(self, other, its):
        alone, values = other.restricted()
        return alone, [its[value] for value in values]

    def check_onto(self, one, mine, other, its):
        """An alike analysis of which all values come leads onto the least one, with joins, statements, begin, answers."""
        least, answers, _ = least_of(one, mine)
        to = onto(one, mine, other, its)
        self.assertEqual(sorted(set(to)), list(range(len(least))))
        self.assertEqual(to[other.begin], least.begin)
        self.assertEqual([answers[number] for number in to], its)
        for u, v in product(range(len(other)), repeat=2):
            self.assertEqual(to[other.joins.join(u, v)], least.joins.join(to[u], to[v]))
        for name in other.statements():
            self.assertEqual([to[value] for value in other.map_of(name)], [least.map_of(name)[number] for number in to])

    def test_no_analysis_of_fewer_values_is_alike(self):
        one, mine = Analysis(chain_joins(4), {"a": [1, 2, 3, 3]}), ["x", "y", "x", "x"]
        self.assertEqual(len(least_of(one, mine)[0]), 3)
        for many in (1, 2):
            for joins in all_joins(many):
                for values, begin in product(rising_maps(joins), range(many)):
                    for its in product("xy", repeat=many):
                        told = are_alike(one, mine, Analysis(joins, {"a": values}, begin=begin), list(its))
                        self.assertEqual(told[0], "parted")


class LossesTest(unittest.TestCase):
    """[10] and [11]"""

    def test_joins_that_lose(self):
        counts = {"keeps": 0, "loses": 0}
        for dice, one in losing_trials(1002, 150):
            told = loss_of(one)
            counts[told[0]] += 1
            if told[0] == "loses":
                program, place = losing_program(told[1], told[2])
                self.assertEqual([row[0] for row in lost(one, program)], [place])
                continue
            for _ in range(4):
                self.assertEqual(lost(one, some_program(dice, one.statements())), [])
        self.assertGreater(min(counts.values()), 30)

    def test_path_facts_are_the_facts_of_one_that_keeps_joins(self):
        tried = 0
        for dice, one, mine, _, _ in some_analyses(1003, 120, 5):
            try:
                exact, sets = exact_of(one)
            except TooMany:
                continue
            self.assertIsNone(exact.unkept())
            known = [mine[one.joins.join_all(list(some))] for some in sets]
            least, answers, classes = least_of(exact, known)
            self.assertIsNone(least.unkept())
            for _ in range(3):
                program = some_program(dice, one.statements())
                facts, its = facts_of(exact, program), facts_of(least, program)
                for place in program.reached():
                    answer = mine[path_fact(one, program, place)]
                    self.assertEqual([known[facts[place]], answers[its[place]]], [answer, answer])
                    self.assertEqual(list(sets[facts[place]]), path_values(one, program, place))
                    self.assertEqual(classes[facts[place]], its[place])
            if exactness(one, mine)[0] == "exact":
                self.assertEqual(least_form(one, mine), least_form(exact, known))
            tried += 1
        self.assertGreater(tried, 60)


class SoundnessTest(unittest.TestCase):
    """[12]"""

    def test_along_all_words_and_at_all_places(self):
        counts = {"sound": 0, "unsound": 0}
        for dice, analysis, meanings, machine in some_soundness(1004, 200):
            self.assertTrue(are_meanings(analysis.joins, machine, meanings))
            told = sound_for(analysis, meanings, machine)
            counts[told[0]] += 1
            collected, sets = collecting(machine)
            pairs = pair_list(analysis, collected, most=2000)
            at_all_places = all(set(sets[at]) <= set(meanings[value]) for value, at in pairs)
            self.assertIs(told[0] == "sound", at_all_places)
            if told[0] == "sound":
                self.assertIs(are_sound_pairs(analysis, meanings, machine, told[1]), True)
            else:
                self.assertIs(is_unsound(analysis, meanings, machine, told[1:]), True)
                fact = facts_of(analysis, line_program(told[1]))[-1]
                self.assertIn(told[2][-1], states_at(machine, line_program(told[1]))[-1])
                self.assertNotIn(told[2][-1], meanings[fact])
            if just_for(analysis, meanings, machine)[0] == "just":
                self.assertEqual(told[0], "sound")
        self.assertGreater(min(counts.values()), 50)

    def test_least_analyses_stay_sound(self):
        """With meanings as the question, values that are one mean the same."""
        for _, analysis, meanings, machine in some_soundness(1005, 60):
            names = {some: "v" + "abcdefghijklmnopqrstuvwxyz"[at] for at, some in enumerate(sorted(set(meanings)))}
            back = {name: some for some, name in names.items()}
            least, answers, _ = least_of(analysis, [names[some] for some in meanings])
            its = [back[answer] for answer in answers]
            self.assertEqual(sound_for(least, its, machine)[0], sound_for(analysis, meanings, machine)[0])
            self.assertEqual(just_for(least, its, machine)[0], just_for(analysis, meanings, machine)[0])


class LeastProgramsTest(unittest.TestCase):
    """[13]"""

    def test_all_programs_with_alike_places_have_one_least_program(self):
        for dice, one, _ in some_programs(1006, 150, 5, 12):
            place = dice.pick(one.reached())
            small, (at,) = small_program(one, [place])
            more = one + small
            for other, there in ((small, at), (more, place), (more, one.places + at), (one.moved(dice.shuffled(range(
                    one.places))), None)):
                if there is None:
                    alike = [p for p in other.reached() if is_within(one, place, other, p) and is_within(other, p, one, place)]
                    there = alike[0]
                least, (spot,) = small_program(other, [there])
                self.assertTrue(are_like_places(least, [spot], small, [at]))
                self.assertEqual((least.places, len(least.edges())), (small.places, len(small.edges())))
                self.assertEqual(sorted(p for p, _ in follow_of(least, least)), sorted(
                    self.matched(least, small)[p] for p, _ in follow_of(small, small)))

    def matched(self, least, small):
        """For each place of small the place of least that is alike to it: there is just one."""
        ahead, back = set(follow_of(least, small)), set(follow_of(small, least))
        found = {}
        for q in range(small.places):
            alike = [p for p in range(least.places) if (p, q) in ahead and (q, p) in back]
            self.assertEqual(len(alike), 1)
            found[q] = alike[0]
        self.assertEqual([found[p] for p in small.begins() if found[p] not in least.begins()], [])
        self.assertEqual(sorted((found[m], s, found[n]) for m, s, n in small.edges()), least.edges())
        return found

    def test_the_facts_and_path_values_that_are_asked(self):
        dice = Dice(1007)
        for _, one, _ in some_programs(1008, 80):
            small, places = small_program(one, one.reached())
            analysis = keeping_analysis(dice, ["a", "b", "ab"])
            for place, there in zip(one.reached(), places):
                self.assertEqual(path_fact(analysis, one, place), path_fact(analysis, small, there))
                self.assertEqual(compare_words(one, place, small, there)[0], "within")
                self.assertEqual(compare_words(small, there, one, place)[0], "within")


class NamesTest(unittest.TestCase):
    """[14]; tests/test_exchanges.py and tests/test_exchanged.py have it for the other modules."""

    def test_best_analyses(self):
        for dice, joins, meanings, machine in some_trials(1009, 150):
            best = best_of(joins, meanings, machine)
            order = dice.shuffled(range(len(joins)))
            meant = [meanings[order.index(value)] for value in range(len(order))]
            self.assertEqual(best_of(joins.moved(order), meant, machine), None if best is None else best.moved(order))
            states = dice.shuffled(range(machine.states))
            other = moved_machine(states, machine)
            self.assertEqual(best_of(joins, [moved_set(states, some) for some in meanings], other), best)
            self.assertEqual(best_of(joins, meanings, renamed_machine(machine)),
                             None if best is None else best.renamed(CHANGES))

    def test_small_programs(self):
        for dice, one, _ in some_programs(1010, 150, 6, 14):
            asked = [dice.pick(one.reached()) for _ in range(2)]
            small, places = small_program(one, asked)
            self.assertEqual(small_program(one.renamed(CHANGES), asked), (small.renamed(CHANGES), places))
            order = dice.shuffled(range(one.places))
            other, there = small_program(one.moved(order), [order[place] for place in asked])
            # Only the numbers of the places differ.
            to = LeastProgramsTest().matched(other, small)
            self.assertEqual((small.moved([to[p] for p in range(small.places)]), [to[p] for p in places]), (other, there))

    def test_books_and_desks(self):
        dice = Dice(1011)
        for _ in range(40):
            one = some_analysis(dice, NAMES)
            order = dice.shuffled(range(len(one)))
            two, three = one.renamed(CHANGES), one.moved(order)
            to = {value: order[value] for value in range(len(one))} | {None: None}
            books, desks = [Book(two), Book(three)], [Desk(two), Desk(three)]
            book, desk = Book(one), Desk(one)
            for _ in range(25):
                deed = some_deed(dice, book.program().places, book.program().edges())
                named = tuple(CHANGES[part] if at == 2 else part for at, part in enumerate(deed))
                try:
                    told = book.do(deed)
                except FlowError as error:
                    for other, its in zip(books, (named, deed)):
                        raised(self, type(error), lambda: other.do(its))
                    continue
                self.assertEqual([books[0].do(named), books[1].do(deed)],
                                 [told, [(place, to[old], to[new]) for place, old, new in told]])
                answers = [desk.execute(show_deed(deed)), desks[0].execute(show_deed(named))]
                self.assertEqual(answers[0], answers[1])
                desks[1].execute(show_deed(deed))
                place, there = book.program().reached()[0], book.program().reached()[-1]
                for line in ("facts", "lost", "paths 0", f"within {place} {there}", f"within {there} {place}"):
                    self.assertEqual(desk.execute(line), desks[0].execute(line))
                self.assertEqual(desks[1].execute("facts"), " ".join("-" if fact is None else str(to[fact])
                                                                     for fact in book.facts()))
            self.assertEqual(books[0].program(), book.program().renamed(CHANGES))
            self.assertEqual(books[1].program(), book.program())


class WholeTest(unittest.TestCase):
    """[3] and [4] over the whole program."""

    def things(self):
        book = Book(parity())
        book.do(("place",))
        return [Joins([[0]]), chain_joins(2), parity(), Program(1, [0], []), line_program(("a",)), Machine(1, [0], {}), toggle(),
                Book(parity()), book]

    def test_no_object_equals_another_one(self):
        for at, one in enumerate(self.things()):
            for there, other in enumerate(self.things()):
                self.assertIs(one == other, at == there)
                self.assertIs(one != other, at != there)
            for thing in odd_values():
                if type(thing) is not type(one):
                    self.assertIs(one == thing, False)
                    self.assertIs(thing == one, False)

    def test_what_is_returned_may_be_passed_in(self):
        machine = Machine(6, list(range(6)), {"a": [(at, (at + 1) % 6) for at in range(6)],
                                              "b": [(at, at) for at in range(1, 6)]})
        great, sets = collecting(machine)
        mirror, _ = mirror_of(Program(6, list(range(6)), [(at, "a", (at + 1) % 6) for at in range(6)]
                                      + [(at, "b", at) for at in range(1, 6)]), ["a", "b"])
        word, _ = word_mirror(("a", "b", "a", "b", "b"), ["a", "b"])
        self.assertEqual([len(one) for one in (great, mirror, word)], [64, 64, 64])
        for one in (great, mirror, word):
            self.assertEqual(read_analysis(show_analysis(one)), one)
            self.assertEqual(len(one.coming()), 64)
            answers = ["top" if value == one.joins.top() else "low" for value in range(64)]
            self.assertEqual(are_alike(one, answers, *least_of(one, answers)[:2])[0], "alike")
            self.assertIsNotNone(context_of(one, answers, one.joins.top(), one.begin) or one.begin == one.joins.top())
            desk = Desk(one)
            self.assertEqual([desk.execute(line) for line in ("edge 0 a 0", "facts")][1], str(desk_fact(one)))
        self.assertEqual(just_for(great, sets, machine)[0], "just")
        self.assertEqual(sound_for(great, sets, machine)[0], "sound")
        self.assertTrue(are_meanings(great.joins, machine, sets))
        self.assertEqual(best_of(great.joins, sets, machine), great)
        self.assertEqual(len(pair_list(great, great)), 64)
        program, place = made_program(great, word, pair_layers(great, word)[2][0], most=2000)
        self.assertEqual(small_program(program, [place])[0].reached()[0], 0)

    def test_programs_that_are_returned_may_be_passed_in(self):
        one, other = known_example(), known_example()
        for pair in pair_list(one, other):
            program, place = made_program(one, other, pair)
            small, (at,) = small_program(program, [place])
            self.assertEqual(facts_of(one, small)[at], pair[0])
            self.assertEqual(read_program(show_program(small)), small)
            self.assertIsNone(parting_of(program, place, small, at))
        program, place = losing_program([("a",), ("b",)], "t")
        self.assertEqual(small_program(program, [place]), (program, [place]))

    def test_arguments_stay_and_results_are_the_same(self):
        dice = Dice(1012)
        for _, analysis, meanings, machine in some_soundness(1013, 30):
            one, other = some_program(dice, NAMES), some_program(dice, NAMES)
            place, there = dice.pick(one.reached()), dice.pick(other.reached())
            for call in (lambda: mirror_of(one, NAMES), lambda: parting_of(one, place, other, there),
                         lambda: states_at(machine, one), lambda: collecting(machine),
                         lambda: sound_for(analysis, meanings, machine), lambda: just_for(analysis, meanings, machine),
                         lambda: best_of(analysis.joins, meanings, machine), lambda: small_program(one, [place, place]),
                         lambda: show_analysis(analysis), lambda: show_program(one)):
                told = stays(self, [analysis, meanings, machine, one, other], call)
                self.assertEqual(repr(call()), repr(told))

    def test_errors_in_their_order(self):
        # NoStatement ahead of NoPlace, Unlike ahead of all that is asked behind it.
        analysis, program = parity(), Program(2, [0], [(0, "zero", 1), (0, "none", 1)])
        for call in (lambda: path_values(analysis, program, 9), lambda: word_to(analysis, program, 9, 0),
                     lambda: path_fact(analysis, program, 9), lambda: is_solution(analysis, program, None),
                     lambda: states_at(toggle(), program)):
            self.assertEqual(raised(self, NoStatement, call).name, "none")
        self.assertEqual(raised(self, NoPlace, lambda: parting_of(program, 9, program, 8)).place, 9)
        raised(self, Unlike, lambda: sound_for(analysis, None, toggle()))
        deed = ("free", 0)
        book = Book(analysis)
        error = raised(self, Refused, lambda: book.do(deed))
        self.assertIs(error.deed, deed)

    def test_a_book_by_its_texts(self):
        dice = Dice(1014)
        for _ in range(30):
            analysis = some_analysis(dice, NAMES)
            book = Book(analysis)
            for _ in range(30):
                try:
                    book.do(some_deed(dice, book.program().places, book.program().edges()))
                except FlowError:
                    pass
            told = read_log(read_analysis(show_analysis(analysis)), show_log(book))
            self.assertEqual((told, told.program(), told.facts()), (book, book.program(), book.facts()))
            self.assertEqual(read_program(show_program(book.program())), book.program())
            self.assertEqual(copy.deepcopy(told), told)

    def test_truths(self):
        """What returns whether something holds returns True or False, never a number."""
        one = line_program(("a",))
        for told in (is_within(one, 0, one, 0), has_word(one, 1, ("a",)), is_parting(one, 0, one, 0, None),
                     are_meanings(chain_joins(1), toggle(), [()]), are_like_places(one, [0], one, [0]),
                     are_sound_pairs(parity().without(["even", "flip"]), [()] * 3, Machine(1, [0], {}), []),
                     is_unsound(parity().without(["even", "flip"]), [()] * 3, Machine(1, [0], {}), ((), [0])),
                     union_joins(2).is_below(0, 1), Book(parity()) == Book(parity())):
            self.assertIn(repr(told), ("True", "False"))


def desk_fact(analysis):
    """The fact of a begin place with the statement a around it."""
    return facts_of(analysis, Program(1, [0], [(0, "a", 0)]))[0]


if __name__ == "__main__":
    unittest.main()
