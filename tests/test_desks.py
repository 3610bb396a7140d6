"""The desk: points 54 and 55, with 1, 2, 4, 12 and 14."""

import random
import re
import unittest

from tests.camping import SlowCamp
from tests.kit import Case
from tests.lands import Land
from tests.lines import NAME, changed_text, slow_party
from tests.troops import Troop, any_troop
from towgrove.desks import Desk
from towgrove.errors import NoCommand, NoPlace, NoText, NoWalker
from towgrove.texts import show_party, show_row
from towgrove.webs import Web

PARTY = 'party places a b c d e ; edge a b ; edge b c ; edge c d ; edge c e ; walkers p q r ; rope p q 1 ; rope q r 2'
ROW = f'{NAME} {NAME}(, {NAME} {NAME})*'
FORM = re.compile(f'party( [^ \n]+)+|(pull|reach) {NAME} {NAME}|(row|suppose|haul|rest) {ROW}|undo|show')

# Commands of each form, for the party above.
COMMANDS = ('pull p e', 'reach p r', 'row p e, r d', 'suppose p e, r d', 'haul p e, r d', 'rest p e, r d', 'undo', 'show', PARTY)


class SlowDesk:
    """A desk that matches commands with a pattern and does pulls step by step; a refused command gives an error's name."""

    def __init__(self):
        self.camp, self.troop = None, None

    def __len__(self):
        return len(self.camp.deeds) if self.camp else 0

    def answer(self, command):
        if not FORM.fullmatch(command):
            return NoCommand, {}
        word, _, rest = command.partition(' ')
        if word == 'party':
            return self.begin(rest.replace(' ; ', '\n'))
        if self.camp is None:
            return NoCommand, {}
        if word in ('row', 'suppose', 'haul', 'rest'):
            row = [tuple(pull.split(' ')) for pull in rest.split(', ')]
            bad = [at for at, pull in enumerate(row) if pull not in self.troop.pulls()]
            return (NoText, {'row': bad[0]}) if bad else getattr(self, word)(row)
        return getattr(self, word)(*rest.split())

    def begin(self, text):
        found = slow_party(text.split('\n'))
        if isinstance(found, int):
            return NoText, {'row': found}
        places, edges, walkers, ropes = found
        self.troop = Troop(Land(places, edges), Web(walkers, ropes))
        self.camp = SlowCamp(self.troop, places[:1] * len(walkers))
        return f'{len(walkers)} walkers'

    def missing(self, walkers, places=()):
        for walker in walkers:
            if walker not in self.troop.walkers:
                return NoWalker, {'walker': walker}
        for place in places:
            if place not in self.troop.land.places:
                return NoPlace, {'place': place}

    def pull(self, walker, place):
        return self.missing([walker], [place]) or ' '.join(self.camp.pull(walker, place)) or 'nobody'

    def reach(self, a, b):
        missing = self.missing([a, b])
        return missing or ('free' if self.troop.reaches[a, b] is None else str(self.troop.reaches[a, b]))

    def row(self, row):
        for pull in row:
            self.camp.pull(*pull)
        return f'{len(row)} done'

    def suppose(self, row):
        return ' '.join(self.troop.dragged(self.camp.standing, row))

    def haul(self, row):
        members = self.troop.dragged_members(row)
        return ' ; '.join(' '.join([walker + ':', *places]) for walker, places in zip(self.troop.walkers, members))

    def rest(self, row):
        return 'rests' if self.suppose(row) == self.show() else 'moves'

    def undo(self):
        return 'undone' if self.camp.undo() else 'nothing'

    def show(self):
        return ' '.join(self.camp.standing)


def ready(*commands):
    desk = Desk()
    for command in (PARTY, *commands):
        desk.say(command)
    return desk


class DeskCase(Case):

    def check(self, desk, slow, command):
        """Say a command to both desks, and return what the slow one answered."""
        wanted = slow.answer(command)
        if isinstance(wanted, tuple):
            self.refuses(wanted[0], wanted[1], desk.say, command)
        else:
            found = desk.say(command)
            self.assertIs(found.__class__, str)
            self.assertEqual(found, wanted, command)
        self.assertEqual(len(desk), len(slow))
        if slow.camp:
            self.assertEqual(desk.say('show'), slow.show())
        return wanted

    def refused(self, kind, kept, command, *before):
        """Check that a command is refused, and that the desk goes on as if it had not been said."""
        desk, other = ready(*before), ready(*before)
        self.refuses(kind, kept, desk.say, command)
        self.assertEqual(len(desk), len(other))
        for later in ('show', 'haul p e', 'reach p r', 'undo', 'show', 'undo', 'show', 'undo', 'show'):
            self.assertEqual(desk.say(later), other.say(later))


class Answers(DeskCase):

    def test_party(self):
        for many, names in ((1, 'p'), (2, 'p q'), (6, 'a b c d e f')):
            desk = Desk()
            self.assertEqual(desk.say(f'party places x y ; edge x y ; walkers {names}'), f'{many} walkers')
            self.assertEqual((desk.say('show'), len(desk)), (' '.join('x' * many), 0))
        self.assertEqual(Desk().say(command=PARTY), '3 walkers')
        self.assertEqual(Desk().say('party places a ; walkers p'), '1 walkers')

    def test_all_stand_on_the_first_place(self):
        desk = Desk()
        desk.say('party places m a ; edge a m ; walkers p q')
        self.assertEqual(desk.say('show'), 'm m')

    def test_pull(self):
        desk = ready()
        self.assertEqual([desk.say(command) for command in ('pull p e', 'pull p e', 'pull q a', 'pull r d', 'pull q e')],
                         ['p q', 'nobody', 'p q', 'q r', 'p q'])
        self.assertEqual((desk.say('show'), len(desk)), ('c e d', 5))

    def test_row(self):
        desk = ready()
        self.assertEqual((desk.say('row p e'), desk.say('row p e, r d, p e'), len(desk), desk.say('show')),
                         ('1 done', '3 done', 4, 'e c d'))
        self.assertEqual((desk.say('undo'), desk.say('undo'), desk.say('show')), ('undone', 'undone', 'e c a'))

    def test_suppose(self):
        desk = ready('pull p e')
        self.assertEqual((desk.say('suppose r d'), desk.say('show'), len(desk)), ('e c d', 'e c a', 1))
        self.assertEqual(desk.say('suppose q a, p b'), 'b a a')

    def test_undo(self):
        desk = ready('pull p e', 'pull p e')
        self.assertEqual([desk.say('undo') for _ in range(4)], ['undone', 'undone', 'nothing', 'nothing'])
        self.assertEqual((desk.say('show'), len(desk)), ('a a a', 0))

    def test_reach(self):
        desk = ready()
        self.assertEqual([desk.say(f'reach {a} {b}') for a, b in ('pp', 'pq', 'pr', 'rp', 'rq')], ['0', '1', '3', '3', '2'])
        desk.say('party places a ; walkers p q r ; rope p q 999')
        self.assertEqual([desk.say('reach p q'), desk.say('reach r q')], ['999', 'free'])

    def test_haul(self):
        desk = ready('pull r d')
        self.assertEqual(desk.say('haul p e'), 'p: e ; q: c e ; r: a b c d e')
        self.assertEqual(desk.say('haul p e, r d'), 'p: e ; q: c e ; r: d')
        self.assertEqual((desk.say('show'), len(desk)), ('a b d', 1))

    def test_rest(self):
        desk = ready('pull p e')
        self.assertEqual([desk.say(f'rest {row}') for row in ('p e', 'r d', 'p e, q c', 'p e, q d', 'r a, p a')],
                         ['rests', 'moves', 'rests', 'moves', 'moves'])
        self.assertEqual(len(desk), 1)

    def test_a_second_party(self):
        desk = ready('pull p e', 'pull r d')
        self.assertEqual(len(desk), 2)
        self.assertEqual(desk.say('party places x y ; edge x y ; walkers u'), '1 walkers')
        self.assertEqual((len(desk), desk.say('show'), desk.say('undo'), desk.say('pull u y')), (0, 'x', 'nothing', 'u'))
        self.refuses(NoWalker, {'walker': 'p'}, desk.say, 'pull p e')

    def test_len(self):
        desk = Desk()
        self.assertEqual(len(desk), 0)
        self.refuses(NoCommand, {}, desk.say, 'show')
        self.assertEqual(len(desk), 0)

    def test_desks_side_by_side(self):
        one, other = ready(), ready()
        one.say('pull p e')
        self.assertEqual((one.say('show'), other.say('show'), len(other)), ('e c a', 'a a a', 0))


class Sessions(DeskCase):

    def command(self, slow, chance):
        if slow.camp is None or chance.random() < 0.06:
            party = any_troop(chance.choice((1, 2, 3, 5, 9)), chance.randint(1, 6), chance).party
            return f'party {show_party(party)}'.replace('\n', ' ; ')
        troop = slow.troop
        word = chance.choice(('pull', 'pull', 'row', 'suppose', 'undo', 'undo', 'show', 'reach', 'haul', 'rest'))
        if word in ('undo', 'show'):
            return word
        if word == 'pull':
            return ' '.join((word, *troop.any_pull(chance)))
        if word == 'reach':
            return f'reach {chance.choice(troop.walkers)} {chance.choice(troop.walkers)}'
        return f'{word} {show_row(troop.any_row(chance, 3) or (troop.any_pull(chance),))}'

    def test_sessions(self):
        chance, seen = random.Random(1), {}
        for _ in range(60):
            desk, slow = Desk(), SlowDesk()
            for _ in range(25):
                wanted = self.check(desk, slow, self.command(slow, chance))
                seen[wanted] = seen.get(wanted, 0) + 1
        for word in ('undone', 'nothing', 'nobody', 'rests', 'moves', 'free'):
            self.assertGreater(seen[word], 15, word)

    def test_sessions_with_commands_that_are_changed(self):
        chance, seen = random.Random(2), {}
        for _ in range(150):
            desk, slow = Desk(), SlowDesk()
            for _ in range(25):
                command = self.command(slow, chance)
                if chance.random() < 0.5:
                    command = changed_text(command, chance)
                wanted = self.check(desk, slow, command)
                seen[wanted[0]] = seen.get(wanted[0], 0) + 1
        for kind in (NoCommand, NoText, NoWalker, NoPlace):
            self.assertGreater(seen[kind], 8, kind)


class Forms(DeskCase):

    def no_command(self, command):
        self.assertIsNone(FORM.fullmatch(command), command)
        self.refused(NoCommand, {}, command, 'pull p e')
        self.refuses(NoCommand, {}, Desk().say, command)

    def test_each_command_before_there_is_a_party(self):
        for command in COMMANDS[:-1]:
            self.refuses(NoCommand, {}, Desk().say, command)
        for command in ('pull x x', 'reach x x', 'row x x', 'haul x x, y y'):
            self.refuses(NoCommand, {}, Desk().say, command)

    def test_other_first_words(self):
        for command in ('', ' ', 'x', 'Show', 'shows', 'sho', 'show;', 'pulls p e', 'Pull p e', 'move p e', 'walk', 'p e', 'log', 'supposed p e',
                        'place a a a', 'parties places a', 'PARTY places a', ';', 'party;', 'rests p e', 'tried p e', 'copied'):
            self.no_command(command)

    def test_numbers_of_words(self):
        for command in ('pull', 'pull p', 'pull p e e', 'reach', 'reach p', 'reach p q r', 'undo undo', 'undo p', 'show p', 'show show', 'row',
                        'row p', 'row p e r', 'row p e r d', 'suppose', 'suppose p', 'haul', 'haul p e e', 'rest', 'rest p', 'party'):
            self.no_command(command)

    def test_empty_words(self):
        for command in COMMANDS:
            self.no_command(command + ' ')
            self.no_command(' ' + command)
            for at in [found.start() for found in re.finditer(' ', command)]:
                self.no_command(command[:at] + ' ' + command[at:])
        self.no_command('party ')
        self.no_command('party  ')

    def test_newlines(self):
        for command in COMMANDS:
            for at in range(len(command) + 1):
                self.no_command(command[:at] + '\n' + command[at:])
        self.no_command('party places a\nwalkers p')
        self.no_command('party\nplaces a ; walkers p')

    def test_words_that_must_be_names(self):
        for word in ('P', 'p1', '1', 'pqrstuv', 'p,', 'p;', '-', 'p.', 'P,', 'p:', ';', ','):
            for command in ('pull {} e', 'pull p {}', 'reach {} p', 'reach p {}', 'row {} e', 'row p {}', 'suppose p e, {} e', 'haul p e, p {}',
                            'rest {} {}'):
                self.no_command(command.format(word, word))

    def test_commas_of_rows(self):
        for word in ('row', 'suppose', 'haul', 'rest'):
            for row in (',', ', p e', 'p e,', 'p e, ', 'p e,r d', 'p e ,r d', 'p e , r d', 'p e,, r d', 'p e, , r d', 'p e; r d', 'p e ; r d',
                        'p, e', 'p e r, d', 'p e, r', 'p e, r d d', 'p e, r d,'):
                self.no_command(f'{word} {row}')

    def test_commands_that_are_changed_in_one_sign(self):
        chance, many = random.Random(3), 0
        for command in COMMANDS * 40:
            other = changed_text(command, chance)
            if not FORM.fullmatch(other):
                self.no_command(other)
                many += 1
        self.assertGreater(many, 150)


class Refusing(DeskCase):

    def test_texts_of_parties_that_are_refused(self):
        for text, row in (('x', 0), (';', 0), ('; ;', 0), ('places', 0), ('places a', 1), ('places a ;', 0), ('; places a', 0),
                          ('places a ; ; walkers p', 1), ('places a ; walkers', 1), ('places a ; walkers p ;', 1), ('places a; walkers p', 0),
                          ('places a ;walkers p', 0), ('places a ; walkers p q ; rope p q 01', 2), ('places a b ; walkers p', 1),
                          ('places a b ; edge a b ; edge b a ; walkers p', 2), ('walkers p', 0), ('places a ; walkers p ; walkers q', 2),
                          ('places a ; walkers p q ; rope p q 1 ; ; rope p q 2', 3), ('places a, b', 0), ('places a ; rope p q 1', 1)):
            self.refused(NoText, {'row': row}, f'party {text}', 'pull p e')
            self.refuses(NoText, {'row': row}, Desk().say, f'party {text}')

    def test_a_refused_party_leaves_the_desk_without_a_camp(self):
        desk = Desk()
        self.refuses(NoText, {'row': 1}, desk.say, 'party places a')
        self.refuses(NoCommand, {}, desk.say, 'show')
        self.assertEqual(len(desk), 0)

    def test_rows_with_a_pull_of_no_walker_or_no_place(self):
        for word in ('row', 'suppose', 'haul', 'rest'):
            for row, at in (('x a', 0), ('p x', 0), ('a p', 0), ('p e, x a', 1), ('p e, r d, p x', 2), ('p e, x x, p x', 1), ('p pp', 0)):
                self.refused(NoText, {'row': at}, f'{word} {row}', 'pull p e', 'pull r d')

    def test_walkers_come_before_places(self):
        for command, kind, kept in (('pull x a', NoWalker, {'walker': 'x'}), ('pull x x', NoWalker, {'walker': 'x'}),
                                    ('pull a p', NoWalker, {'walker': 'a'}), ('pull p x', NoPlace, {'place': 'x'}),
                                    ('pull q p', NoPlace, {'place': 'p'}), ('reach x y', NoWalker, {'walker': 'x'}),
                                    ('reach p y', NoWalker, {'walker': 'y'}), ('reach y p', NoWalker, {'walker': 'y'}),
                                    ('reach a b', NoWalker, {'walker': 'a'})):
            self.refused(kind, kept, command, 'pull p e')

    def test_the_form_comes_before_all_else(self):
        for command in ('pull X x', 'row p e, x  a', 'row x a,', 'reach x Y', 'party places  a', 'rest x x x'):
            self.refused(NoCommand, {}, command)
            self.refuses(NoCommand, {}, Desk().say, command)


class Document(DeskCase):

    def test_the_example(self):
        desk = Desk()
        answers = [desk.say('party places a b c ; edge a b ; edge b c ; walkers p q ; rope p q 1'), desk.say('pull p c'),
                   desk.say('haul q a'), desk.say('rest p c, q b')]
        self.assertEqual(answers, ['2 walkers', 'p q', 'p: a b ; q: a', 'rests'])


if __name__ == '__main__':
    unittest.main()
