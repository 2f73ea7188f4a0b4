"""The names, arguments and places of definition that the document's interface lists."""

import importlib
import inspect
import unittest

FUNCTIONS = {
    "kinds": ["is_integer(thing)", "is_count(thing)", "is_number(thing)", "are_bits(thing)", "is_side(thing)",
              "is_reader(thing)"],
    "words": ["Word(early, again)"],
    "dances": ["Dance(suns, moons, rounds, rule)"],
    "ribbons": ["ribbons(dance)", "is_ribbon(dance, thing)", "same_cloth(one, other)", "are_crossings(thing)",
                "meetings_of(dance, ribbon)", "over(dance, ribbon)", "under(dance, ribbon)",
                "lies_above(dance, one, other)", "crossings(dance)"],
    "layers": ["hangs(dance)", "is_lot(dance, thing)", "reached_from(dance, ribbon)", "layer_of(dance, ribbon)",
               "layers_of(dance)", "lots_of(dance)", "least_lot(dance)"],
    "rings": ["is_way(dance, thing)", "is_ring(dance, thing)", "ring_of(dance)", "way_between(dance, one, other)",
              "loop_of(dance, ribbon)", "knots(dance)", "links_of(dance, ring)"],
    "classes": ["class_of(rule, number)", "classes(rule, many)", "members(rule, many)",
                "fellow(rule, suns, moons, rounds)", "rule_at(rule, r, i, j, suns, moons)",
                "table(rule, suns, moons, rounds)"],
    "forall": ["hangs_at(rule, suns, moons, rounds)", "is_lot_at(rule, suns, moons, rounds, thing)",
               "layers_at(rule, suns, moons, rounds)", "lot_at(rule, suns, moons, rounds)",
               "least_whole(rule, *, suns=1, moons=1, rounds=1)", "least_apart(rule, *, suns=1, moons=1, rounds=1)",
               "whole_from(rule)", "When(rule)"],
    "pictures": ["Colours(suns, moons)", "seen_at(dance, colours, meeting)", "picture_of(dance, colours)",
                 "levels_seen(dance, colours)", "is_picture(colours, suns, moons, thing)",
                 "many_shown(colours, thing)", "comes_again(rule, colours, suns, moons)"],
    "alike": ["alike(one, other)", "alike_seen(one, other, colours)", "parted_at(one, other)",
              "parted_seen(one, other, colours)", "as_words(rule)", "told_always(rule)"],
    "heaps": ["Heap(pieces=())", "heap_of(dance)"],
    "back": ["what_is_left(dance, rule)", "danced_back(dance, rule)", "reasons(dance, rule)",
             "are_reasons(dance, rule, thing)", "left_many(one, other, suns, moons, rounds)",
             "is_left(one, other, suns, moons, rounds, meeting)"],
    "slips": ["slipped(dance, meeting)", "slip_of(dance, thing)", "to_undo(dance, meetings)",
              "undo_many(suns, moons, rounds, meeting)", "harm(dance)"],
    "programmes": ["Programme(suns, moons, acts)"],
    "tellback": ["are_forms(thing)", "joined_rule(forms, words)", "told_back(crossings, forms)",
                 "refusal(crossings, forms)", "many_told(crossings, forms)", "is_refusal(crossings, forms, thing)"],
    "counts": ["many_cloths(forms, suns, moons, rounds)", "cloth_bits(crossings)",
               "nth_cloth(forms, suns, moons, rounds, number)", "cloth_number(forms, crossings)"],
    "free": ["free_ribbons(dance)", "lifting(dance)", "kernel_of(dance)", "is_lifting(dance, thing)",
             "free_at(rule, suns, moons, rounds)", "many_free_at(rule, suns, moons, rounds)"],
    "sooner": ["sooner(rule, suns, moons)", "growth(rule, suns, moons)", "whole_level(dance)"],
    "evening": ["Evening(suns, moons, rule)"],
    "notation": ["show_word(word)", "show_rule(rule)", "show_meeting(meeting)", "show_dance(dance)", "show_heap(heap)",
                 "show_crossings(crossings)", "show_programme(programme)", "show_deed(deed)", "show_log(evening)"],
    "readers": ["read_word(text)", "read_rule(text)", "read_meeting(text)", "read_dance(text)", "read_heap(text)",
                "read_crossings(text)", "read_programme(text)", "read_deed(text)", "read_log(suns, moons, rule, text)"],
    "desk": ["Desk(suns, moons, rule)"],
}

METHODS = {
    "words.Word": ["bits(many)", "plain()", "later(many)", "same(other)", "__call__(x)"],
    "rules.Rule": ["by(reader, word)", "always(truth)", "of(parts)", "__call__(r, i, j, suns, moons)", "parts()",
                   "size()", "words()", "swapped()"],
    "dances.Dance": ["is_meeting(thing)", "is_order(thing)", "meetings()", "levels()", "size()", "above(meeting)",
                     "counts(meeting)", "behind(meeting)", "level(meeting)", "ahead(one, other)", "swapped()"],
    "forall.When": ["__call__(suns, moons, rounds)", "cases()", "parting(other)"],
    "pictures.Colours": ["shown(ribbon)"],
    "heaps.Heap": ["levels()", "firsts()", "lasts()", "pieces_of(ribbon)", "is_order(thing)", "orders()",
                   "swapped()"],
    "programmes.Programme": ["acts()", "needless()", "least()", "heap()", "turned()"],
    "evening.Evening": ["laid()", "can()", "ends()", "log()", "above(meeting)", "needed(meeting)", "do(deed)", "undo()",
                        "redo()", "finish(rounds)", "rounds_laid()", "heap()", "holds()", "past(many)", "copied()",
                        "trial(act)"],
    "desk.Desk": ["execute(line)"],
}

SIGNS = {
    "words.Word": "eq invert and or xor", "rules.Rule": "eq invert and or xor", "dances.Dance": "eq",
    "forall.When": "eq", "pictures.Colours": "eq", "heaps.Heap": "eq len iter contains mul pow invert",
    "programmes.Programme": "eq len add", "evening.Evening": "eq len iter",
}

PROPERTIES = {
    "words.Word": ["early", "again", "lead", "period"], "rules.Rule": ["lead", "period"],
    "dances.Dance": ["suns", "moons", "rounds", "rule"], "forall.When": ["rule"],
    "pictures.Colours": ["suns", "moons"], "programmes.Programme": ["suns", "moons"],
    "evening.Evening": ["suns", "moons", "first", "rule"],
}


def found_in(path):
    """What stands under this name, file and class told with points."""
    file, name = path.split(".")
    return getattr(importlib.import_module("poleribbons." + file), name)


def written(name, thing, of_object=False):
    """A name with its arguments, without the object of a method."""
    signature = inspect.signature(thing)
    if of_object:
        signature = signature.replace(parameters=list(signature.parameters.values())[1:])
    return name + str(signature)


class Interface(unittest.TestCase):
    def test_functions_and_classes_are_defined_in_their_files(self):
        for file, listed in FUNCTIONS.items():
            for line in listed:
                name = line.split("(")[0]
                thing = found_in(file + "." + name)
                self.assertEqual(thing.__module__, "poleribbons." + file)
                self.assertEqual(written(name, thing), line)

    def test_methods_are_defined_in_their_classes(self):
        for path, listed in METHODS.items():
            own = vars(found_in(path))
            for line in listed:
                name = line.split("(")[0]
                static = isinstance(own[name], staticmethod)
                thing = own[name].__func__ if static else own[name]
                self.assertEqual(written(name, thing, not static), line)

    def test_signs_are_defined_in_their_classes(self):
        for path, names in SIGNS.items():
            for name in names.split():
                self.assertIn("__" + name + "__", vars(found_in(path)), path)

    def test_properties_can_not_be_assigned(self):
        for path, names in PROPERTIES.items():
            for name in names:
                own = vars(found_in(path))[name]
                self.assertIsInstance(own, property)
                self.assertIsNone(own.fset)


if __name__ == "__main__":
    unittest.main()
