"""At least one call of each function, class and method of the interface."""

from poleribbons import alike, back, classes, counts, desk, evening, forall, free, heaps, kinds, layers, notation
from poleribbons import pictures, programmes, readers, ribbons, rings, slips, sooner, tellback
from poleribbons.dances import Dance
from poleribbons.rules import Rule
from poleribbons.words import Word

RULE = Rule.by("turns", Word("", "10")) ^ Rule.by("suns", Word("", "10"))
NO = Rule.always(False)


def word():
    return Word("11", "100")


def dance(suns=2, moons=3, rounds=2):
    return Dance(suns, moons, rounds, RULE)


def small():
    return Dance(1, 2, 1, RULE)


def laid():
    return {(1, 0): "10", (0, 1): "10", (0, 0): "01", (1, 2): "10", (0, 2): "01", (1, 1): "01"}


def forms():
    return [("turns", 0, 2), ("suns", 0, 2)]


def meetings():
    return [(0, 1, 1), (0, 0, 0)]


def heap():
    return heaps.Heap([(0, 1, True, True), (0, 0, False, True), (1, 1, True, False)])


def colours():
    return pictures.Colours("ab", "c")


def programme():
    return programmes.Programme(2, 2, [("on", 1, RULE), ("back", 1, RULE), ("on", 2, RULE)])


def led():
    made = evening.Evening(2, 2, RULE)
    made.finish(1)
    made.do(("rule", NO.parts()))
    made.undo()
    return made


def ring():
    return rings.ring_of(dance())


OF_KINDS = [kinds.is_integer, kinds.is_count, kinds.is_number, kinds.are_bits, kinds.is_side, kinds.is_reader]

FUNCTION_CALLS = [(act, thing) for thing in (3, True, "01", "sun", "turns", [0]) for act in OF_KINDS] + [
    (ribbons.ribbons, dance()), (ribbons.is_ribbon, dance(), ("sun", 0)), (ribbons.is_ribbon, dance(), ["sun", 0]),
    (ribbons.same_cloth, dance(), dance()), (ribbons.are_crossings, laid()),
    (ribbons.meetings_of, dance(), ("moon", 1)), (ribbons.over, dance(), ("sun", 0)),
    (ribbons.under, dance(), ("moon", 0)), (ribbons.lies_above, dance(), ("sun", 0), ("moon", 1)),
    (ribbons.crossings, dance()), (layers.hangs, dance()), (layers.hangs, small()),
    (layers.is_lot, small(), [("moon", 0), ("sun", 0)]), (layers.reached_from, dance(), ("sun", 0)),
    (layers.layer_of, dance(), ("sun", 1)), (layers.layers_of, small()), (layers.lots_of, small()),
    (layers.least_lot, small()), (rings.is_way, small(), [("moon", 0), ("sun", 0)]),
    (rings.is_ring, dance(), ring()), (rings.ring_of, dance()),
    (rings.way_between, dance(), ("sun", 0), ("sun", 1)), (rings.loop_of, dance(), ("sun", 0)),
    (rings.knots, dance()), (rings.links_of, dance(), ring()), (classes.class_of, RULE, 7),
    (classes.classes, RULE, 5), (classes.members, RULE, 5), (classes.fellow, RULE, 9, 9, 9),
    (classes.rule_at, RULE, 1, 1, 1, 2, 2), (classes.table, RULE, 2, 3, 2), (forall.hangs_at, RULE, 2, 2, 1),
    (forall.is_lot_at, RULE, 1, 2, 1, [("moon", 0)]), (forall.layers_at, RULE, 1, 2, 1),
    (forall.lot_at, RULE, 1, 2, 1), (forall.least_whole, RULE), (forall.least_apart, RULE),
    (forall.whole_from, RULE), (pictures.seen_at, dance(), colours(), (0, 1, 0)),
    (pictures.picture_of, dance(), colours()), (pictures.levels_seen, dance(), colours()),
    (pictures.is_picture, colours(), 1, 2, [["ca"]]), (pictures.many_shown, colours(), [["ca"], ["aa"]]),
    (pictures.comes_again, RULE, colours(), 1, 2), (alike.alike, RULE, NO), (alike.alike_seen, RULE, NO, colours()),
    (alike.parted_at, RULE, NO), (alike.parted_seen, RULE, NO, colours()),
    (alike.as_words, Rule.by("suns", Word("", "10"))), (alike.as_words, NO), (alike.told_always, NO),
    (heaps.heap_of, dance()), (back.what_is_left, dance(), NO), (back.danced_back, dance(), NO),
    (back.reasons, dance(), NO), (back.are_reasons, dance(), NO, {(0, 0, 0): (0, 0, 0)}),
    (back.left_many, RULE, NO, 2, 3, 2), (back.is_left, RULE, NO, 2, 3, 2, (0, 0, 0)),
    (slips.slipped, dance(), (0, 0, 0)), (slips.slip_of, dance(), {**laid(), (0, 0): "00"}),
    (slips.to_undo, dance(), meetings()), (slips.undo_many, 2, 3, 2, (0, 0, 1)), (slips.harm, dance(2, 2, 1)),
    (tellback.are_forms, forms()), (tellback.joined_rule, forms(), [Word("", "01"), Word("", "10")]),
    (tellback.told_back, laid(), forms()), (tellback.refusal, {(0, 1): "1", (0, 0): "0"}, [("suns", 0, 1)]),
    (tellback.many_told, laid(), forms()),
    (tellback.is_refusal, {(0, 1): "1", (0, 0): "0"}, [("suns", 0, 1)], [(0, 0, 1), (0, 0, 0)]),
    (counts.many_cloths, forms(), 2, 3, 2), (counts.cloth_bits, laid()), (counts.nth_cloth, forms(), 2, 3, 2, 3),
    (counts.cloth_number, forms(), laid()), (free.free_ribbons, small()), (free.lifting, small()),
    (free.kernel_of, dance()), (free.is_lifting, small(), [("moon", 0)]), (free.free_at, RULE, 1, 2, 1),
    (free.many_free_at, RULE, 1, 2, 1), (sooner.sooner, RULE, 1, 1), (sooner.growth, RULE, 1, 1),
    (sooner.whole_level, dance()), (notation.show_word, word()), (notation.show_rule, RULE),
    (notation.show_meeting, (0, 1, 2)), (notation.show_dance, dance()), (notation.show_heap, heap()),
    (notation.show_crossings, laid()), (notation.show_programme, programme()),
    (notation.show_deed, ("rule", NO.parts())), (notation.show_log, led()), (readers.read_word, "1(0)"),
    (readers.read_rule, "not yes"), (readers.read_meeting, "0.1.2"), (readers.read_dance, "2 2 2 no"),
    (readers.read_heap, "+0.1a"), (readers.read_crossings, "0.0 1\n0.1 0"),
    (readers.read_programme, "2 2\non 1 no"), (readers.read_deed, "rule no"),
    (readers.read_log, 2, 2, NO, "lay 0.0.0"),
]

CLASS_CALLS = [
    (Word, "11", "100"), (Dance, 2, 3, 2, RULE), (forall.When, RULE), (pictures.Colours, "ab", "c"),
    (heaps.Heap, [(0, 1, True, True), (1, 1, True, True)]), (programmes.Programme, 2, 2, [("on", 1, RULE)]),
    (evening.Evening, 2, 2, RULE), (desk.Desk, 2, 2, RULE),
]

METHOD_CALLS = [
    (word, "bits", 8), (word, "plain"), (word, "later", 3), (word, "same", word()), (word, "__call__", 7),
    (word, "__invert__"), (word, "__and__", word()), (word, "__or__", word()), (word, "__xor__", word()),
    (lambda: RULE, "by", "suns", word()), (lambda: RULE, "always", True), (lambda: RULE, "of", RULE.parts()),
    (lambda: RULE, "__call__", 0, 0, 1, 2, 2), (lambda: RULE, "parts"), (lambda: RULE, "size"), (lambda: RULE, "words"),
    (lambda: RULE, "swapped"), (lambda: RULE, "__invert__"), (lambda: RULE, "__and__", NO),
    (lambda: RULE, "__or__", NO), (lambda: RULE, "__xor__", NO), (dance, "is_meeting", (0, 0, 0)),
    (dance, "is_order", dance().meetings()), (dance, "meetings"), (dance, "levels"), (dance, "size"),
    (dance, "above", (1, 0, 2)), (dance, "counts", (1, 0, 2)), (dance, "behind", (0, 1, 2)),
    (dance, "level", (1, 1, 2)), (dance, "ahead", (0, 0, 2), (1, 0, 0)), (dance, "swapped"),
    (lambda: forall.When(RULE), "__call__", 2, 2, 1), (lambda: forall.When(RULE), "cases"),
    (lambda: forall.When(RULE), "parting", forall.When(NO)), (colours, "shown", ("sun", 3)), (heap, "levels"),
    (heap, "firsts"), (heap, "lasts"), (heap, "pieces_of", ("sun", 0)), (heap, "is_order", list(heap())),
    (heap, "orders"), (heap, "swapped"), (heap, "__mul__", heap()), (heap, "__pow__", 3), (heap, "__invert__"),
    (heap, "__len__"), (heap, "__contains__", (0, 1, True, True)), (programme, "acts"), (programme, "needless"),
    (programme, "least"), (programme, "heap"), (programme, "turned"), (programme, "__add__", programme()),
    (programme, "__len__"), (led, "laid"), (led, "can"), (led, "ends"), (led, "log"), (led, "above", (0, 0, 0)),
    (led, "needed", (1, 0, 0)), (led, "rounds_laid"), (led, "heap"), (led, "holds"), (led, "past", 2), (led, "copied"),
    (led, "trial", lambda other: other.finish(2)), (led, "__len__"),
]

# These are said to change the object.
CHANGING_CALLS = [
    (led, "do", ("lay", (1, 0, 0))), (led, "undo"), (led, "redo"), (led, "finish", 2),
    (lambda: desk.Desk(2, 2, RULE), "execute", "lay 0.0.0"),
]

# Each makes an object anew; no two of them make equal ones.
MADE = [dance, small, word, heap, colours, programme, led, lambda: RULE, lambda: forall.When(RULE)]
